import Derived.Test.YtdmhffbohnfdlaaGreatTDone
import Derived.Deep.Slices
import Derived.SizedLaws
import Derived.ProofKit
import Derived.Test.YtdmhffbohnfdlaaGreatRows
import Derived.Test.YtdmhffbohnfdlaaGreatTOnce
import Derived.OpenShut
/- Arguments of type []Change and [][]Change, opened. -/
namespace Go.Proofs.YtdmhffbohnfdlaaGreat
open Go.RowKit Go.Deep Go.ChangeShapes Go.WideShapes
set_option linter.unusedVariables false

def chData {H : Type} (p : Ch) : DataW H := .agg [.lit (.bool p.1), .lit (.string p.2.1.data.toList), .lit (.int .i64 p.2.2)]
theorem cells_change : Tryz.prog.cellsOf 57 = 3 := by kernel_rfl
theorem cells_changes : Tryz.prog.cellsOf 52 = 1 := by kernel_rfl
theorem cells_int5 : Tryz.prog.cellsOf 3 = 1 := by kernel_rfl
theorem cells_str5 : Tryz.prog.cellsOf 9 = 1 := by kernel_rfl
theorem cells_bool5 : Tryz.prog.cellsOf 4 = 1 := by kernel_rfl
theorem bytes_change : Tryz.prog.bytesOf 57 = 32 := by kernel_rfl

set_option maxRecDepth 100000 in
theorem open_chs {H : Type} {enc : TypeId × Value → H} {W : World} {fuel : Nat} {ao : Option Addr} {len cap : Nat} {x : DataW H × List MemPlace}
    (h : DataW.trod enc Tryz.prog W 0 (fun _ => true) true fuel 52 [.slice ao len cap] = some x) :
    ∃ (ps : List Ch) (spare : List (DataW H)), ps.length = len ∧ (x.1 = .nil ∧ ps = [] ∨ x.1 = .slice (ps.map chData) spare) ∧ ((∀ p ∈ ps, p.2.1.size ≤ 140737488351296) → ChAt W.heap.size W ao ps) := by
  rcases open_slice Tryz.underlying52 h with ⟨hc, hx⟩ | ⟨a, len', cap', m, n, D, Pl, hc, hb, hl, hm, hmm, hx, hel⟩
  · simp at hc
    obtain ⟨rfl, rfl, rfl⟩ := hc
    exact ⟨[], [], rfl, .inl ⟨by rw [hx], rfl⟩, fun _ i hp => by simp at hp⟩
  · simp at hc
    obtain ⟨rfl, rfl, rfl⟩ := hc
    simp only [if_true] at hmm
    subst hmm
    rw [cells_change] at hel
    have each : ∀ i, i < len → ∃ p : Ch, D i = chData p ∧ W.cell? (a.add (i * 3)) = some (.bool p.1) ∧ W.cell? (a.add (i * 3 + 1)) = some (.string p.2.1) ∧ W.cell? (a.add (i * 3 + 2)) = some (.int .i64 p.2.2) := by
      intro i hi
      obtain ⟨cs', h1, h2⟩ := hel i (by omega)
      obtain ⟨_, hlen, hcell⟩ := World.cells?_some h1
      obtain ⟨xs, k, hk, hxy, _, hxl, hf⟩ := DataW.trod_struct Tryz.underlying57 h2
      match xs, hxl, cs', hlen with
      | [y0, y1, y2], _, [v0, v1, v2], _ =>
        have g0 := hf 0 _ rfl
        have g1 := hf 1 _ rfl
        have g2 := hf 2 _ rfl
        simp [cells_int5, cells_str5, cells_bool5] at g0 g1 g2
        have e0 := hcell 0 (by omega)
        have e1 := hcell 1 (by omega)
        have e2 := hcell 2 (by omega)
        rw [add_add] at e0 e1 e2
        obtain ⟨b0, q0, r0⟩ := DataW.trod_bool Tryz.underlying4 g0
        obtain ⟨s1, q1, r1, w1⟩ := DataW.trod_string Tryz.underlying9 g1
        obtain ⟨n2, q2, r2, w2⟩ := DataW.trod_int Tryz.underlying3 g2
        simp at q0 q1 q2
        subst q0 q1 q2
        simp only [Prod.mk.injEq] at hxy
        refine ⟨(b0, s1, n2), ?_, by simpa using e0, by simpa using e1, by simpa using e2⟩
        rw [hxy.1]
        simp [chData, r0, r1, r2]
    obtain ⟨f, hf⟩ : ∃ f : Nat → Ch, ∀ i, i < len → _ := @choose_lt Ch ⟨(false, ⟨#[]⟩, 0)⟩ len _ each
    refine ⟨(List.range len).map f, (List.range (m - len)).map fun j => D (len + j), by simp, .inr ?_, ?_⟩
    · rw [hx]
      simp only [DataW.slice.injEq, and_true]
      rw [List.map_map]
      exact List.map_congr_left fun i hi => (hf i (List.mem_range.1 hi)).1
    · intro hts i hi
      have hi' : i < len := by simpa using hi
      obtain ⟨_, c0, c1, c2⟩ := hf i hi'
      obtain ⟨b, off, spot⟩ := a
      have hspot : spot = none := by simpa [Addr.add] using World.cell?_spot (hf 0 (by omega)).2.1
      subst hspot
      have e0 : W.cell? ⟨b, off + i * 3, none⟩ = some (.bool ((List.range len).map f)[i].1) := by rw [← add_plain]; simpa using c0
      refine ⟨b, off, rfl, .inl (World.block_lt_of_cell? W _ e0), e0, ?_, ?_, hts _ (List.getElem_mem hi)⟩
      · rw [Nat.add_assoc, ← add_plain]; simpa using c1
      · rw [Nat.add_assoc, ← add_plain]; simpa using c2

/-- The data of a list of changes. -/
def ChsData {H : Type} (ps : List Ch) (d : DataW H) : Prop := d = .nil ∧ ps = [] ∨ ∃ spare, d = .slice (ps.map chData) spare
/-- A list of lists of changes, with each one's address and room. -/
abbrev Chs := Option Addr × Nat × List Ch
def ChssAt (W : World) (ao : Option Addr) (ls : List Chs) : Prop :=
  ∀ i (h : i < ls.length), ∃ b off, ao = some ⟨b, off, none⟩ ∧ W.cell? ⟨b, off + i, none⟩ = some (.slice ls[i].1 ls[i].2.2.length ls[i].2.1) ∧ ChAt W.heap.size W ls[i].1 ls[i].2.2

set_option maxRecDepth 100000 in
theorem open_chss {H : Type} {enc : TypeId × Value → H} {W : World} {fuel : Nat} {ao : Option Addr} {len cap : Nat} {x : DataW H × List MemPlace}
    (h : DataW.trod enc Tryz.prog W 0 (fun _ => true) true fuel 70 [.slice ao len cap] = some x) :
    ∃ (ls : List Chs) (D : Nat → DataW H) (spare : List (DataW H)), ls.length = len ∧ (x.1 = .nil ∧ ls = [] ∨ x.1 = .slice ((List.range ls.length).map D) spare ∧ ∀ i (h : i < ls.length), ChsData ls[i].2.2 (D i)) ∧ ((∀ c ∈ ls, ∀ p ∈ c.2.2, p.2.1.size ≤ 140737488351296) → ChssAt W ao ls) := by
  rcases open_slice1 Tryz.underlying70 cells_changes h with ⟨hc, hx⟩ | ⟨a, len', cap', m, n, V, D, Pl, hc, hb, hl, hm, hmm, hx, hel⟩
  · simp at hc
    obtain ⟨rfl, rfl, rfl⟩ := hc
    exact ⟨[], fun _ => .nil, [], rfl, .inl ⟨by rw [hx], rfl⟩, fun _ i hp => by simp at hp⟩
  · simp at hc
    obtain ⟨rfl, rfl, rfl⟩ := hc
    simp only [if_true] at hmm
    subst hmm
    have each : ∀ i, i < len → ∃ c : Chs, W.cell? (a.add i) = some (.slice c.1 c.2.2.length c.2.1) ∧ ChsData c.2.2 (D i) ∧ ((∀ p ∈ c.2.2, p.2.1.size ≤ 140737488351296) → ChAt W.heap.size W c.1 c.2.2) := by
      intro i hi
      obtain ⟨h1, h2⟩ := hel i (by omega)
      obtain ⟨la, ll, lc, hv⟩ : ∃ la ll lc, V i = .slice la ll lc := by
        rcases DataW.trod_slice Tryz.underlying52 h2 with ⟨hc, _⟩ | ⟨a, len, cap, _, _, _, _, hc, _⟩
        · simp at hc; exact ⟨none, 0, 0, hc⟩
        · simp at hc; exact ⟨some a, len, cap, hc⟩
      rw [hv] at h1 h2
      obtain ⟨ps, sp, rfl, hd, hat⟩ := open_chs h2
      exact ⟨(la, lc, ps), h1, hd.imp_right fun e => ⟨sp, e⟩, hat⟩
    obtain ⟨f, hf⟩ : ∃ f : Nat → Chs, ∀ i, i < len → _ := @choose_lt Chs ⟨(none, 0, [])⟩ len _ each
    refine ⟨(List.range len).map f, D, (List.range (m - len)).map fun j => D (len + j), by simp, .inr ⟨by rw [hx]; simp, fun i hi => ?_⟩, ?_⟩
    · have hi' : i < len := by simpa using hi
      simpa using (hf i hi').2.1
    · intro hts i hi
      have hi' : i < len := by simpa using hi
      obtain ⟨c0, -, c1⟩ := hf i hi'
      obtain ⟨b, off, spot⟩ := a
      have hspot : spot = none := by simpa [Addr.add] using World.cell?_spot (hf 0 (by omega)).1
      subst hspot
      refine ⟨b, off, rfl, ?_, ?_⟩
      · rw [← add_plain]; simpa using c0
      · have := c1 (fun p hp => hts _ (List.getElem_mem hi) p (by simpa using hp))
        simpa using this

theorem mem_weightsAll5 {H : Type} {P : Program} {e : TypeId} : ∀ {l : List (DataW H)} {d : DataW H}, d ∈ l → ∀ n ∈ d.weights P e, n ∈ DataW.weightsAll P e l
  | d0 :: l, d, hd, n, hn => by
    simp only [DataW.weightsAll, List.mem_append]
    rcases List.mem_cons.1 hd with rfl | h
    · exact .inl hn
    · exact .inr (mem_weightsAll5 h n hn)
  | [], _, hd, _, _ => by simp at hd

/-- By the form's own reach: how long the list and its texts can be. -/
theorem chs_reach {H : Type} {ps : List Ch} {d : DataW H} (hd : ChsData ps d) (hw : ∀ n ∈ d.weights Tryz.prog 52, n ≤ reachBytes) :
    ps.length * 32 ≤ 140737488351232 ∧ ∀ p ∈ ps, p.2.1.size ≤ 140737488351232 := by
  rcases hd with ⟨_, rfl⟩ | ⟨spare, rfl⟩
  · simp
  · simp only [DataW.weights, Tryz.underlying52, bytes_change] at hw
    refine ⟨?_, ?_⟩
    · have := hw _ (List.mem_cons_self ..)
      simp only [List.length_map, reachBytes] at this
      omega
    · intro p hp
      have := hw p.2.1.data.toList.length (List.mem_cons_of_mem _ (List.mem_append_left _ (mem_weightsAll5 (List.mem_map_of_mem hp) _ (by
        simp [chData, DataW.weights, Tryz.underlying57, DataW.weightsEach]))))
      simpa [reachBytes] using this
theorem bytes_changes : Tryz.prog.bytesOf 52 = 24 := by kernel_rfl
theorem chss_reach {H : Type} {ls : List Chs} {D : Nat → DataW H} {spare : List (DataW H)} {d : DataW H} (hd : d = .nil ∧ ls = [] ∨ d = .slice ((List.range ls.length).map D) spare ∧ ∀ i (h : i < ls.length), ChsData ls[i].2.2 (D i)) (hw : ∀ n ∈ d.weights Tryz.prog 70, n ≤ reachBytes) :
    ls.length * 24 ≤ 140737488351232 ∧ ∀ c ∈ ls, c.2.2.length * 32 ≤ 140737488351232 ∧ ∀ p ∈ c.2.2, p.2.1.size ≤ 140737488351232 := by
  rcases hd with ⟨_, rfl⟩ | ⟨rfl, hD⟩
  · simp
  · simp only [DataW.weights, Tryz.underlying70, bytes_changes] at hw
    refine ⟨?_, fun c hc => ?_⟩
    · have := hw _ (List.mem_cons_self ..)
      simp only [List.length_map, List.length_range, reachBytes] at this
      omega
    · obtain ⟨i, hi, rfl⟩ := List.getElem_of_mem hc
      refine chs_reach (hD i hi) fun n hn => hw n (List.mem_cons_of_mem _ (List.mem_append_left _ (mem_weightsAll5 (List.mem_map.2 ⟨i, List.mem_range.2 hi, rfl⟩) n hn)))
end Go.Proofs.YtdmhffbohnfdlaaGreat

/- TxnAtOnce answers true and leaves its arguments as they were, for all two lists of changes and either choice: readers see all of a commit or nothing. No condition. -/
namespace Go.Proofs.YtdmhffbohnfdlaaGreat
open Go.ChangeShapes Go.WideShapes Go.ChangeAt Go.RowKit
set_option linter.unusedVariables false

namespace PTOnce
theorem own : ownKnob Tryz.prog.godebug = none := by kernel_rfl
theorem laidOut : laidOutB Tryz.prog = true := by kernel_rfl

set_option maxRecDepth 100000 in
theorem lifted (os : Os) (started : os.Started) (H : Type) (enc : TypeId × Value → H) :
    ReturnsInHanded {} Tryz.checked os 4 .any (Rows.txnAtOnceSpec.pre6 enc Tryz.prog Tryz.f4 Rows.txnAtOnceRow.domain false) (Rows.txnAtOnceSpec.post enc Tryz.prog Tryz.f4 false true false false) := by
  refine returnsInHanded_of_change_sized (C := Tryz.checked) own started (by kernel_rfl) Tryz.func4
    (ChangeSpec.witness6 (enc := enc) (C := Tryz.checked) false ⟨#[], #[.slice none 0 0, .slice none 0 0, .bool false], []⟩ 8 (by kernel_rfl) (by kernel_rfl) (by kernel_rfl) (by kernel_rfl)) ?_
  intro W base args ds gs before hval0 hW _ hsz0 _
  have hsz : (DataW.weightsEach Tryz.prog (Tryz.f4.params.toList ++ Rows.txnAtOnceSpec.plain.varTypes Tryz.prog) (ds ++ gs)).all (· ≤ reachBytes) = true := hsz0
  have hval : ∀ (j : Nat) t v, Tryz.f4.params[j]? = some t → args[j]? = some v → Value.okWide Tryz.prog W .any base t v := hval0
  have hW' := hW
  obtain ⟨p, q, hA0, hV, rfl, hfz, hnd⟩ := hW
  have hA : DataW.TrodAll enc Tryz.prog W 0 (fun _ => true) true Tryz.f4.params.toList args.toList ds p := hA0
  rw [Tryz.params4] at hA hval hsz
  obtain ⟨v0, v1, v2, d0, d1, d2, p0, p1, p2, rfl, rfl, rfl, h0, h1, h2⟩ := trodAll_three hA
  obtain ⟨rfl, rfl⟩ := trodVars_none hV
  obtain ⟨ao, len, cap, rfl⟩ := okWide_slice Tryz.underlying52 (hval 0 52 v0 rfl rfl)
  obtain ⟨ao', len', cap', rfl⟩ := okWide_slice Tryz.underlying52 (hval 1 52 v1 rfl rfl)
  have h0k := h0
  have h1k := h1
  have h2k := h2
  obtain ⟨fuel, hf⟩ := h0
  obtain ⟨fuel', hf'⟩ := h1
  obtain ⟨fuel2, hf2⟩ := h2
  clear hA0 hval0 hsz0
  simp only [List.append_nil] at hW'
  have hlt0 : ∀ x ∈ p0, x.block < W.heap.size := fun x hx => by simpa using hW'.lt x (by simp [hx])
  have hlt1 : ∀ x ∈ p1, x.block < W.heap.size := fun x hx => by simpa using hW'.lt x (by simp [hx])
  have hlt2 : ∀ x ∈ p2, x.block < W.heap.size := fun x hx => by simpa using hW'.lt x (by simp [hx])
  obtain ⟨ps, spare, rfl, hd, hpa⟩ := open_chs (by simpa [Value.cells] using hf)
  obtain ⟨qs, spare', rfl, hd', hpa'⟩ := open_chs (by simpa [Value.cells] using hf')
  simp only at hd hd'
  obtain ⟨cm, rfl⟩ := okWide_bool Tryz.underlying4 (hval 2 4 v2 rfl rfl)
  obtain ⟨hr1, hr2⟩ := chs_reach (hd.imp_right fun e => ⟨spare, e⟩) fun n hn => of_decide_eq_true (List.all_eq_true.1 hsz _ (DataW.weights_mem_each (j := 0) rfl rfl n hn))
  obtain ⟨hr3, hr4⟩ := chs_reach (hd'.imp_right fun e => ⟨spare', e⟩) fun n hn => of_decide_eq_true (List.all_eq_true.1 hsz _ (DataW.weights_mem_each (j := 1) rfl rfl n hn))
  refine (txnAtOnce_calls ao ao' cap cap' ps qs cm W (hpa fun p hp => Nat.le_trans (hr2 p hp) (by decide)) (hpa' fun p hp => Nat.le_trans (hr4 p hp) (by decide)) (by omega) (by omega)).mono fun e W' ⟨he, hg⟩ => ?_
  subst he
  exact ⟨_, rfl, _, _, _, [], _, [], hW', trodAll_mk1 (shut_bool Tryz.underlying4 _), trodAll_mk3 (Below.trod laidOut (by kernel_rfl) (of_decide_eq_true (by kernel_rfl)) h0k hg hlt0) (Below.trod laidOut (by kernel_rfl) (of_decide_eq_true (by kernel_rfl)) h1k hg hlt1) (Below.trod laidOut (by kernel_rfl) (of_decide_eq_true (by kernel_rfl)) h2k hg hlt2), rfl, hg.frame _, fun h => by cases h⟩
end PTOnce

theorem txnAtOnce_holds : Rows.TxnAtOnceSaid :=
  OpenClaim.holds_of_wide 4 Tryz.f4 rfl rfl rfl rfl rfl rfl rfl ⟨rfl, rfl, rfl, rfl, rfl⟩ rfl rfl rfl rfl rfl (by kernel_rfl) Tryz.func4 (by kernel_rfl)
    (of_decide_eq_true (by kernel_rfl)) (by unfold Func.isWrapper; first | (rw [if_pos (by decide +kernel)]; kernel_rfl) | (rw [if_neg (by decide +kernel)]; exact ⟨rfl, rfl⟩))
    (fun os started H enc _ => PTOnce.lifted os started H enc)

#print axioms txnAtOnce_holds
end Go.Proofs.YtdmhffbohnfdlaaGreat
