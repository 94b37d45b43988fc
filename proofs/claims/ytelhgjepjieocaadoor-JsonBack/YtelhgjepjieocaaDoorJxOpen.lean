/- Layer 18 (json): an argument of type api.Json, opened. -/
import Derived.Test.YtelhgjepjieocaaDoorJxCpM
import Derived.Test.YtelhgjepjieocaaDoorJxSndI
namespace Go.Proofs.YtelhgjepjieocaaDoor
open Go.RowKit Go.Deep Go.ChangeShapes Go.WideShapes
set_option linter.unusedVariables false

def anyB : Nat → Prop := fun _ => True
theorem cells_strJ : Tryd.prog.cellsOf 9 = 1 := by kernel_rfl
theorem cells_jsJ : Tryd.prog.cellsOf 26 = 5 := by kernel_rfl
theorem bytes_strJ : Tryd.prog.bytesOf 9 = 16 := by kernel_rfl
theorem bytes_jsJ : Tryd.prog.bytesOf 26 = 80 := by kernel_rfl
def nmD {H : Type} (t : List UInt8) : DataW H := .lit (.string t)
theorem nmB_of (s : ByteArray) : nmB s.data.toList = s := rfl
theorem weightsAll_mem {H : Type} {P : Program} {e : TypeId} {d : DataW H} : ∀ {l : List (DataW H)}, d ∈ l → ∀ n ∈ d.weights P e, n ∈ DataW.weightsAll P e l
  | y :: l, h, n, hn => by
    unfold DataW.weightsAll
    rcases List.mem_cons.1 h with rfl | h
    · exact List.mem_append_left _ hn
    · exact List.mem_append_right _ (weightsAll_mem h n hn)
set_option maxRecDepth 100000 in
theorem open_names {H : Type} {enc : TypeId × Value → H} {W : World} {fuel : Nat} {ao : Option Addr} {len cap : Nat} {x : DataW H × List MemPlace}
    (h : DataW.trod enc Tryd.prog W 0 (fun _ => true) true fuel 23 [.slice ao len cap] = some x) :
    ∃ ns : List (List UInt8), ns.length = len ∧ VAt W ao (ns.map strV) ∧ (ao = none → cap = 0 ∧ len = 0) ∧ len ≤ cap ∧ cap ≤ maxLen ∧
      ((∀ n ∈ x.1.weights Tryd.prog 23, n ≤ reachBytes) → ns.length ≤ 8796093021952 ∧ ∀ t ∈ ns, t.length ≤ 140737488351232) ∧ (ns = [] ∨ ∃ el sp, x.1 = .slice el sp ∧ ∀ t ∈ ns, nmD t ∈ el) := by
  rcases open_slice Tryd.underlying23 h with ⟨hc, hx⟩ | ⟨a, len', cap', m, n, D, Pl, hc, hb, hl, hm, hmm, hx, hel⟩
  · simp at hc
    obtain ⟨rfl, rfl, rfl⟩ := hc
    exact ⟨[], rfl, fun k hk => absurd hk (Nat.not_lt_zero _), fun _ => ⟨rfl, rfl⟩, Nat.le_refl _, Nat.zero_le _, fun _ => ⟨by simp, fun t ht => by cases ht⟩, .inl rfl⟩
  · simp at hc
    obtain ⟨rfl, rfl, rfl⟩ := hc
    simp only [if_true] at hmm
    subst hmm
    rw [cells_strJ] at hel
    have each : ∀ i, i < len → ∃ t : List UInt8, D i = nmD t ∧ W.cell? (a.add i) = some (strV t) := by
      intro i hi
      obtain ⟨cs', h1, h2⟩ := hel i (by omega)
      obtain ⟨_, hlen, hcell⟩ := World.cells?_some h1
      match cs', hlen with
      | [v0], _ =>
        obtain ⟨s1, q1, r1, _⟩ := DataW.trod_string Tryd.underlying9 h2
        have e0 := hcell 0 (by omega)
        rw [add_add] at e0
        simp at q1
        subst q1
        exact ⟨s1.data.toList, congrArg Prod.fst r1, by simpa [strV, nmB_of] using e0⟩
    obtain ⟨f, hf⟩ : ∃ f : Nat → List UInt8, ∀ i, i < len → _ := @choose_lt (List UInt8) ⟨[]⟩ len _ each
    refine ⟨(List.range len).map f, by simp, ?_, fun e => (by cases e), hl, hm, fun hw => ?_, .inr ⟨_, _, by rw [hx], fun t ht => ?_⟩⟩
    · intro i hi
      have hi' : i < len := by simpa using hi
      obtain ⟨_, c0⟩ := hf i hi'
      obtain ⟨b, off, spot⟩ := a
      have hspot : spot = none := by simpa [Addr.add] using World.cell?_spot (hf 0 (by omega)).2
      subst hspot
      refine ⟨b, off, rfl, ?_⟩
      rw [← addr_add]
      simpa using c0
    · rw [hx] at hw
      simp only [DataW.weights, Tryd.underlying23, bytes_strJ] at hw
      refine ⟨?_, fun t ht => ?_⟩
      · have := hw _ (List.mem_cons_self ..)
        simp only [List.length_map, List.length_range, reachBytes] at this ⊢
        omega
      · obtain ⟨i, hi, rfl⟩ := List.mem_map.1 ht
        have hi' := List.mem_range.1 hi
        have h3 := hw (f i).length (List.mem_cons_of_mem _ (List.mem_append_left _ (weightsAll_mem (List.mem_map_of_mem hi) _ (by rw [(hf i hi').1]; simp [nmD, DataW.weights]))))
        exact Nat.le_trans h3 (by decide)
    · obtain ⟨i, hi, rfl⟩ := List.mem_map.1 ht
      rw [← (hf i (List.mem_range.1 hi)).1]
      exact List.mem_map_of_mem hi
theorem ItAt.make {W : World} {S : Nat → Prop} {ia : Option Addr} : ∀ (its : List Js) (k : Nat), (∀ i (h : i < its.length), ∃ b off cs, ia = some ⟨b, off, none⟩ ∧ cs.size = 5 ∧ (∀ j u, cs[j]? = some u → W.cell? ⟨b, off + (k + i) * 5 + j, none⟩ = some u) ∧ JAt W S its[i] cs) → ItAt W S ia k its
  | [], _, _ => by unfold ItAt; trivial
  | x :: xs, k, h => by
    unfold ItAt
    refine ⟨h 0 (Nat.succ_pos _), ItAt.make xs (k + 1) fun i hi => ?_⟩
    have := h (i + 1) (Nat.succ_lt_succ hi)
    rw [show k + 1 + i = k + (i + 1) by omega]
    exact this
theorem Rngs.of : ∀ {its : List Js}, (∀ x ∈ its, Rng x) → Rngs its
  | [], _ => by unfold Rngs; trivial
  | y :: ys, h => by
    unfold Rngs
    exact ⟨h y (List.mem_cons_self ..), Rngs.of fun x hx => h x (List.mem_cons_of_mem _ hx)⟩
set_option maxRecDepth 100000 in
set_option maxHeartbeats 1000000 in
theorem open_json {H : Type} {enc : TypeId × Value → H} {W : World} (Bk : DataW H → Nat) (hb1 : ∀ t : List UInt8, Bk (.lit (.string t)) ≤ 1048576 → t.length ≤ 1048576) (hb2 : ∀ ps p, p ∈ ps → Bk (.agg ps) ≤ 1048576 → Bk p ≤ 1048576) (hb3 : ∀ el sp p, p ∈ el → Bk (.slice el sp) ≤ 1048576 → Bk p ≤ 1048576) : ∀ (N fuel : Nat) (cs : List Value) (x : DataW H × List MemPlace), SizeOf.sizeOf x.1 < N → cs.length = 5 →
    DataW.trod enc Tryd.prog W 0 (fun _ => true) true fuel 26 cs = some x → (∀ n ∈ x.1.weights Tryd.prog 26, n ≤ reachBytes) → ∃ v : Js, JAt W anyB v cs.toArray ∧ Rng v ∧ (Bk x.1 ≤ 1048576 → Sml v) ∧ Fit v
  | 0, _, _, _, hN, _, _, _ => absurd hN (Nat.not_lt_zero _)
  | N + 1, fuel, cs, x, hN, h5, h, hw => by
    obtain ⟨c0, c1, c2, c3, c4, rfl⟩ : ∃ c0 c1 c2 c3 c4, cs = [c0, c1, c2, c3, c4] := by
      match cs, h5 with
      | [c0, c1, c2, c3, c4], _ => exact ⟨c0, c1, c2, c3, c4, rfl⟩
    obtain ⟨xs, k, hk, hxy, _, hxl, hf⟩ := DataW.trod_struct Tryd.underlying26 h
    match xs, hxl with
    | [y0, y1, y2, y3, y4], _ =>
      have g0 := hf 0 _ rfl
      have g1 := hf 1 _ rfl
      have g2 := hf 2 _ rfl
      have g3 := hf 3 _ rfl
      have g4 := hf 4 _ rfl
      simp [show Tryd.prog.cellsOf 3 = 1 by kernel_rfl, show Tryd.prog.cellsOf 2 = 1 by kernel_rfl, cells_strJ, show Tryd.prog.cellsOf 23 = 1 by kernel_rfl, show Tryd.prog.cellsOf 24 = 1 by kernel_rfl] at g0 g1 g2 g3 g4
      obtain ⟨n0, q0, r0, w0⟩ := DataW.trod_int Tryd.underlying3 g0
      obtain ⟨n1, q1, r1, w1⟩ := DataW.trod_int Tryd.underlying2 g1
      obtain ⟨s2, q2, r2, _⟩ := DataW.trod_string Tryd.underlying9 g2
      obtain ⟨na, nn, nc, rfl⟩ : ∃ ta tn tc, c3 = .slice ta tn tc := by
        rcases open_slice Tryd.underlying23 g3 with ⟨hc, _⟩ | ⟨a, len', cap', _, _, _, _, hc, _⟩
        · simp at hc; exact ⟨_, _, _, hc⟩
        · simp at hc; exact ⟨_, _, _, hc⟩
      obtain ⟨ns, rfl, hns, -, -, -, hnw, hnd⟩ := open_names g3
      simp at q0 q1 q2
      subst q0 q1 q2
      rw [hxy] at hw hN
      simp only [DataW.weights, Tryd.underlying26, List.map_cons, List.map_nil, DataW.weightsEach] at hw
      have hnw' := hnw fun n hn => hw n (by simp only [List.mem_append]; exact .inr (.inr (.inr (.inl hn))))
      have h2w : s2.data.toList.length ≤ 140737488351232 := by
        have := hw s2.data.toList.length (by rw [r2]; simp [DataW.weights])
        exact Nat.le_trans this (by decide)
      have hiw : ∀ n ∈ y4.1.weights Tryd.prog 24, n ≤ reachBytes := fun n hn => hw n (by simp only [List.mem_append]; exact .inr (.inr (.inr (.inr (.inl hn)))))
      have hsz : SizeOf.sizeOf y4.1 < N := by
        simp at hN
        omega
      obtain ⟨its, ia, ic, rfl, hI, hR, hil, hIS, hIF⟩ : ∃ (its : List Js) (ia : Option Addr) (ic : Nat), c4 = .slice ia its.length ic ∧ ItAt W anyB ia 0 its ∧ (∀ x ∈ its, Rng x) ∧ its.length ≤ 1759218604416 ∧ (Bk y4.1 ≤ 1048576 → ∀ x ∈ its, Sml x) ∧ ∀ x ∈ its, Fit x := by
        rcases open_slice Tryd.underlying24 g4 with ⟨hc, hx⟩ | ⟨a, len, cap, m, n, D, Pl, hc, hb, hl, hm, hmm, hx, hel⟩
        · simp at hc
          exact ⟨[], none, 0, hc, by unfold ItAt; trivial, fun x hx => (by cases hx), by simp, fun _ x hx => (by cases hx), fun x hx => (by cases hx)⟩
        · simp at hc
          subst hc
          simp only [if_true] at hmm
          subst hmm
          rw [cells_jsJ] at hel
          rw [hx] at hiw hsz
          simp only [DataW.weights, Tryd.underlying24, bytes_jsJ] at hiw
          have each : ∀ i, i < len → ∃ v : Js, (∃ cs : Array Value, cs.size = 5 ∧ (∀ j u, cs[j]? = some u → W.cell? ((a.add (i * 5)).add j) = some u) ∧ JAt W anyB v cs) ∧ Rng v ∧ (Bk (D i) ≤ 1048576 → Sml v) ∧ Fit v := by
            intro i hi
            obtain ⟨cs', h1, h2⟩ := hel i (by omega)
            obtain ⟨_, hlen, hcell⟩ := World.cells?_some h1
            have hmem : D i ∈ (List.range len).map D := List.mem_map_of_mem (List.mem_range.2 hi)
            have hlt : SizeOf.sizeOf (D i) < N := by
              have h3 := List.sizeOf_lt_of_mem hmem
              simp at hsz
              omega
            obtain ⟨v, hv, hr, hsm, hft⟩ := open_json Bk hb1 hb2 hb3 N n cs' (D i, Pl i) hlt hlen h2 fun n hn => hiw n (List.mem_cons_of_mem _ (List.mem_append_left _ (weightsAll_mem hmem n hn)))
            refine ⟨v, ⟨cs'.toArray, by simp [hlen], fun j u hu => ?_, hv⟩, hr, hsm, hft⟩
            have hj : j < cs'.length := by
              obtain ⟨h3, _⟩ := Array.getElem?_eq_some_iff.1 hu
              simpa using h3
            have h4 := hcell j (by omega)
            rw [h4]
            simpa using hu
          obtain ⟨f, hf⟩ : ∃ f : Nat → Js, ∀ i, i < len → _ := @choose_lt Js ⟨.mk 0 0 [] [] []⟩ len _ each
          have hlen9 : len ≤ 1759218604416 := by
            have := hiw _ (List.mem_cons_self ..)
            simp only [List.length_map, List.length_range, reachBytes] at this
            omega
          obtain ⟨b, off, spot⟩ := a
          refine ⟨(List.range len).map f, some ⟨b, off, spot⟩, m, by simp, ItAt.make _ _ fun i hi => ?_, fun x hx => ?_, by simpa using hlen9, fun hbk x9 hx9 => ?_, fun x9 hx9 => ?_⟩
          · have hi' : i < len := by simpa using hi
            obtain ⟨⟨cs, h5c, hc, hj⟩, -⟩ := hf i hi'
            have hspot : spot = none := by
              obtain ⟨⟨cs0, h50, hc0, -⟩, -⟩ := hf 0 (by omega)
              have h7 := World.cell?_spot (hc0 0 _ (Array.getElem?_eq_getElem (by omega)))
              simpa [Addr.add] using h7
            subst hspot
            refine ⟨b, off, cs, rfl, h5c, fun j u hu => ?_, by simpa using hj⟩
            have := hc j u hu
            rw [add_add, addr_add] at this
            simpa [Nat.add_assoc] using this
          · obtain ⟨i, hi, rfl⟩ := List.mem_map.1 hx
            exact (hf i (List.mem_range.1 hi)).2.1
          · obtain ⟨i, hi, rfl⟩ := List.mem_map.1 hx9
            refine (hf i (List.mem_range.1 hi)).2.2.1 ?_
            rw [hx] at hbk
            exact hb3 _ _ _ (List.mem_map_of_mem hi) hbk
          · obtain ⟨i, hi, rfl⟩ := List.mem_map.1 hx9
            exact (hf i (List.mem_range.1 hi)).2.2.2
      refine ⟨.mk n0 n1 s2.data.toList ns its, ?_, ?_, fun hbk => ?_, ?_⟩
      · unfold JAt
        exact ⟨na, nc, ia, ic, rfl, hns, fun _ _ _ => trivial, fun _ _ _ => trivial, hI⟩
      · unfold Rng
        have hi1 : -9223372036854775808 ≤ n1 ∧ n1 ≤ 9223372036854775807 := by
          have h1 : IntKind.i64.min = -9223372036854775808 := rfl
          have h2 : IntKind.i64.max = 9223372036854775807 := rfl
          simp only [Lit.wf, Bool.and_eq_true, decide_eq_true_eq, h1, h2] at w1
          exact w1
        exact ⟨hi1, by omega, by have := hnw'.1; omega, by omega, fun s hs => by have := hnw'.2 s hs; omega, Rngs.of hR⟩
      · rw [hxy] at hbk
        unfold Sml
        refine ⟨hb1 _ ?_, fun t ht => ?_, Smls.of (hIS ?_)⟩
        · have := hb2 _ y2.1 (by simp) hbk
          rw [r2] at this
          exact this
        · rcases hnd with h | ⟨el, sp, h1, h2⟩
          · rw [h] at ht; cases ht
          · have := hb2 _ y3.1 (by simp) hbk
            rw [h1] at this
            exact hb1 _ (hb3 _ _ _ (h2 t ht) this)
        · exact hb2 _ y4.1 (by simp) hbk
      · unfold Fit
        exact ⟨by omega, hnw'.1, hil, fun s hs => by have := hnw'.2 s hs; omega, Fits.of hIF⟩
set_option maxRecDepth 100000 in
set_option maxHeartbeats 1000000 in
/-- A list of values. -/
theorem open_items {H : Type} {enc : TypeId × Value → H} {W : World} {fuel : Nat} {c4 : Value} {x : DataW H × List MemPlace} (g4 : DataW.trod enc Tryd.prog W 0 (fun _ => true) true fuel 24 [c4] = some x) (hiw : ∀ n ∈ x.1.weights Tryd.prog 24, n ≤ reachBytes) :
    ∃ (its : List Js) (ia : Option Addr) (ic : Nat), c4 = .slice ia its.length ic ∧ ItAt W anyB ia 0 its ∧ Rngs its ∧ its.length ≤ 1759218604416 ∧ Fits its ∧ (ia = none → its.length = 0) := by
  rcases open_slice Tryd.underlying24 g4 with ⟨hc, hx⟩ | ⟨a, len, cap, m, n, D, Pl, hc, hb, hl, hm, hmm, hx, hel⟩
  · simp at hc
    exact ⟨[], none, 0, hc, by unfold ItAt; trivial, Rngs.of fun x hx => (by cases hx), by simp, Fits.of fun x hx => (by cases hx), fun _ => rfl⟩
  · simp at hc
    subst hc
    simp only [if_true] at hmm
    subst hmm
    rw [cells_jsJ] at hel
    rw [hx] at hiw
    simp only [DataW.weights, Tryd.underlying24, bytes_jsJ] at hiw
    have each : ∀ i, i < len → ∃ v : Js, (∃ cs : Array Value, cs.size = 5 ∧ (∀ j u, cs[j]? = some u → W.cell? ((a.add (i * 5)).add j) = some u) ∧ JAt W anyB v cs) ∧ Rng v ∧ Fit v := by
      intro i hi
      obtain ⟨cs', h1, h2⟩ := hel i (by omega)
      obtain ⟨_, hlen, hcell⟩ := World.cells?_some h1
      have hmem : D i ∈ (List.range len).map D := List.mem_map_of_mem (List.mem_range.2 hi)
      obtain ⟨v, hv, hr, -, hft⟩ := open_json (fun _ => 2000000) (fun t h => by simp at h) (fun ps p _ h => by simp at h) (fun el sp p _ h => by simp at h) _ n cs' (D i, Pl i) (Nat.lt_succ_self _) hlen h2 fun n hn => hiw n (List.mem_cons_of_mem _ (List.mem_append_left _ (weightsAll_mem hmem n hn)))
      refine ⟨v, ⟨cs'.toArray, by simp [hlen], fun j u hu => ?_, hv⟩, hr, hft⟩
      have hj : j < cs'.length := by
        obtain ⟨h3, _⟩ := Array.getElem?_eq_some_iff.1 hu
        simpa using h3
      have h4 := hcell j (by omega)
      rw [h4]
      simpa using hu
    obtain ⟨f, hf⟩ : ∃ f : Nat → Js, ∀ i, i < len → _ := @choose_lt Js ⟨.mk 0 0 [] [] []⟩ len _ each
    have hlen9 : len ≤ 1759218604416 := by
      have := hiw _ (List.mem_cons_self ..)
      simp only [List.length_map, List.length_range, reachBytes] at this
      omega
    obtain ⟨b, off, spot⟩ := a
    refine ⟨(List.range len).map f, some ⟨b, off, spot⟩, m, by simp, ItAt.make _ _ fun i hi => ?_, Rngs.of fun x hx => ?_, by simpa using hlen9, Fits.of fun x9 hx9 => ?_, fun e => by cases e⟩
    · have hi' : i < len := by simpa using hi
      obtain ⟨⟨cs, h5c, hc, hj⟩, -⟩ := hf i hi'
      have hspot : spot = none := by
        obtain ⟨⟨cs0, h50, hc0, -⟩, -⟩ := hf 0 (by omega)
        have h7 := World.cell?_spot (hc0 0 _ (Array.getElem?_eq_getElem (by omega)))
        simpa [Addr.add] using h7
      subst hspot
      refine ⟨b, off, cs, rfl, h5c, fun j u hu => ?_, by simpa using hj⟩
      have := hc j u hu
      rw [add_add, addr_add] at this
      simpa [Nat.add_assoc] using this
    · obtain ⟨i, hi, rfl⟩ := List.mem_map.1 hx
      exact (hf i (List.mem_range.1 hi)).2.1
    · obtain ⟨i, hi, rfl⟩ := List.mem_map.1 hx9
      exact (hf i (List.mem_range.1 hi)).2.2
mutual
/-- A value's blocks lie in the memory that there is. -/
theorem JAt.inHeap {W : World} : ∀ (v : Js) (cs : Array Value), JAt W anyB v cs → JAt W (fun k => k < W.heap.size) v cs
  | .mk k n t ns its, cs, h => by
    unfold JAt at h ⊢
    obtain ⟨na, nc, ia, ic, h1, h2, h3, h4, h5⟩ := h
    refine ⟨na, nc, ia, ic, h1, h2, fun a e hn => ?_, fun a e hn => ?_, ItAt.inHeap its ia 0 h5⟩
    · have hlen : 0 < (ns.map strV).length := by
        rw [List.length_map]
        exact List.length_pos_iff.2 hn
      obtain ⟨b, off, e2, hc⟩ := h2 0 hlen
      rw [e] at e2
      obtain rfl := Option.some.inj e2
      exact World.block_lt_of_cell? W ⟨b, off + 0, none⟩ hc
    · cases its with
      | nil => exact absurd rfl hn
      | cons x xs =>
        unfold ItAt at h5
        obtain ⟨⟨b, off, cs5, e2, hs5, hc, -⟩, -⟩ := h5
        rw [e] at e2
        obtain rfl := Option.some.inj e2
        exact World.block_lt_of_cell? W ⟨b, off + 0 * 5 + 0, none⟩ (hc 0 _ (Array.getElem?_eq_getElem (by omega)))
theorem ItAt.inHeap {W : World} : ∀ (its : List Js) (ia : Option Addr) (k : Nat), ItAt W anyB ia k its → ItAt W (fun k => k < W.heap.size) ia k its
  | [], _, _, _ => by unfold ItAt; trivial
  | x :: xs, ia, k, h => by
    unfold ItAt at h ⊢
    obtain ⟨⟨b, off, cs, h1, h2, h3, h4⟩, h5⟩ := h
    exact ⟨⟨b, off, cs, h1, h2, h3, JAt.inHeap x cs h4⟩, ItAt.inHeap xs ia (k + 1) h5⟩
end
end Go.Proofs.YtelhgjepjieocaaDoor
