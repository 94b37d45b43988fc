import Derived.Test.YtelhgjepjieocaaDoorJxParse
/- Layer 18 (json): which values are sound: hasParts, unlike. -/
namespace Go.Proofs.YtelhgjepjieocaaDoor
open Go.RowKit Go.MapKept Go.Sort
set_option linter.unusedVariables false

mutual
def soundJ : Js → Nat → Bool
  | .mk k n t ns its, d =>
    if k = 1 then n == 0 && t.isEmpty && (ns.isEmpty && its.isEmpty)
    else if k = 2 then (n == 0 || n == 1) && t.isEmpty && (ns.isEmpty && its.isEmpty)
    else if k = 3 then t.isEmpty && (ns.isEmpty && its.isEmpty)
    else if k = 4 then n == 0 && (ns.isEmpty && its.isEmpty)
    else if k = 5 then n == 0 && t.isEmpty && ns.isEmpty && (decide (d < 16) && allS its (d + 1))
    else if k = 6 then n == 0 && t.isEmpty && decide (ns.length = its.length) && (decide (d < 16) && allS its (d + 1)) && decide ns.Nodup
    else false
def allS : List Js → Nat → Bool
  | [], _ => true
  | x :: xs, d => soundJ x d && allS xs d
end
theorem hasParts_calls (k n : Int) (t : ByteArray) (na ia : Option Addr) (nl nc il ic : Nat) (w : World) :
    Calls Tryd.prog 46 #[.agg (jC k n t (.slice na nl nc) (.slice ia il ic))] w fun e w' => e = .returned (.bool (decide (0 < nl) || decide (0 < il))) ∧ Below w.heap.size w w' := by
  obtain ⟨w1, Hw1⟩ : ∃ w1, Hid (w1 = w.alloc (.cells #[.int .i64 k, .int .i64 n, .string t, .slice na nl nc, .slice ia il ic] 26)) := ⟨_, rfl⟩
  obtain ⟨g, Hg⟩ : ∃ g, Hid (g = w.heap.size) := ⟨_, rfl⟩
  have HB1 : Hid (Blk w1 g #[.int .i64 k, .int .i64 n, .string t, .slice na nl nc, .slice ia il ic] 26) := by rw [Hid, Hw1.out, Hg.out]; exact Blk.new _ _ _
  have HF1 : Hid (Below w.heap.size w w1) := by rw [Hid, Hw1.out]; exact below_new _ _
  obtain ⟨x0, x1, x2, x3, x4, -⟩ := Blk.five HB1.out
  unfold jC
  by_cases hn : 0 < nl
  · have HZ : Hid ((decide (0 < nl) || decide (0 < il)) = true) := by simp [Hid, hn]
    go_enter Tryd.func46, Tryd.ntmps46
    go_upto_region 1 with fail
    rw [← Hw1.out, ← Hg.out]
    go_wp2
    go_ret
    exact ⟨by rw [HZ.out]; rfl, HF1.out⟩
  · by_cases hi : 0 < il
    · have HZ : Hid ((decide (0 < nl) || decide (0 < il)) = true) := by simp [Hid, hi]
      go_enter Tryd.func46, Tryd.ntmps46
      go_upto_region 1 with fail
      rw [← Hw1.out, ← Hg.out]
      go_wp2
      go_ret
      exact ⟨by rw [HZ.out]; rfl, HF1.out⟩
    · have HZ : Hid ((decide (0 < nl) || decide (0 < il)) = false) := by simp [Hid]; omega
      go_enter Tryd.func46, Tryd.ntmps46
      go_upto_region 1 with fail
      rw [← Hw1.out, ← Hg.out]
      go_wp2
      go_ret
      exact ⟨by rw [HZ.out]; rfl, HF1.out⟩
/-- A key that is there is put in again. -/
theorem MapAt.again {w : World} {mb clock : Nat} {es : Array MapEntry} {ks : List ByteArray} (h : MapAt w mb es clock ks) (k : ByteArray) (hn : k ∈ ks) :
    ∃ w' es', (Instr.mapUpdate 89 (.map (some mb)) (.string k) (.agg #[])).run Tryd.prog w = .ok () w' ∧ MapAt w' mb es' clock ks ∧ Frm (fun k => k = mb) w w' := by
  have hk : IsKey .string (.string k) := trivial
  rcases findNow_spec hk es.toList 0 h.isKey with ⟨h1, h2⟩ | ⟨j, e, h1, h2, h3⟩
  · obtain ⟨x, hx, he⟩ := (h.mem k).2 hn
    exact absurd he (h2 x hx)
  · have ej : es[j]? = some e := by simpa using h2
    have hsb : Instr.sameBits 10000 (.string k) (.string k) = true := by
      have hkk : (k == k) = true := by
        cases k with
        | mk dt => exact (beq_self_eq_true dt)
      simp [Instr.sameBits, hkk]
    have hks : (Instr.keyThatStays (.string k) (.string k)).run Tryd.prog w = .ok (.string k) w := by simp [Instr.keyThatStays, hsb]
    have hf : ∀ x : MapEntry, es[j]? = some x → (.string k : Value) = x.key := fun x hx => by
      rw [ej] at hx; cases hx; exact h3.symm
    refine ⟨{ w with heap := w.heap.setIfInBounds mb (.map (es.modify j (fun e => { key := .string k, val := .agg #[], born := e.born })) clock) }, es.modify j (fun e => { key := .string k, val := .agg #[], born := e.born }), ?_, ?_, ?_⟩
    · simp [Instr.mapUpdate, run_underlying Tryd.underlying89, MapKept.run_getObj_map h.blk, MapKept.run_checkKey Tryd.underlying9 hk, MapKept.run_findKey Tryd.underlying9 h1, Result.andThen, ej, h3, hks, MapKept.run_setObj_map _ h.blk]
    · refine ⟨by simp [lt_of_heapT h.blk], stamped_modify h.st j _ (fun _ _ => rfl) (fun x _ hx => hf x hx), ?_, fun x hx => ?_⟩
      · rw [← h.keys, Array.toList_modify]
        apply List.ext_getElem?
        intro i
        rw [List.getElem?_map, List.getElem?_map, List.getElem?_modify]
        by_cases hij : j = i
        · subst hij
          rw [h2]
          simp [h3]
        · simp [hij]
      · rw [Array.toList_modify] at hx
        obtain ⟨i, hi⟩ := List.mem_iff_getElem?.1 hx
        rw [List.getElem?_modify] at hi
        cases hq : es.toList[i]? with
        | none => rw [hq] at hi; cases hi
        | some y =>
          rw [hq] at hi
          by_cases hij : j = i
          · simp [hij] at hi; rw [← hi]
          · simp [hij] at hi; rw [← hi]; exact h.vals y (List.mem_of_getElem? hq)
    · refine ⟨rfl, rfl, rfl, by simp, fun b _ hb => ?_⟩
      simp only
      rw [Array.getElem?_setIfInBounds_ne (fun e => hb e.symm)]
theorem len_mapT {w : World} {mb clock : Nat} {es : Array MapEntry} {ks : List ByteArray} (h : MapAt w mb es clock ks) : es.size = ks.length := by
  have := congrArg List.length h.keys
  simpa using this
end Go.Proofs.YtelhgjepjieocaaDoor

/- Layer 18 (json): unlike. -/
namespace Go.Proofs.YtelhgjepjieocaaDoor
open Go.RowKit Go.MapKept Go.Sort
set_option linter.unusedVariables false

/-- Behind k names. -/
structure UnI (w : World) (mb : Nat) (bs : List ByteArray) (k : Nat) (wr : World) : Prop where
  ex : ∃ es clock ks, MapAt wr mb es clock ks ∧ (∀ x, x ∈ ks ↔ x ∈ bs.take k) ∧ ks.length ≤ k ∧ (ks.length = k ↔ (bs.take k).Nodup)
  below : Below w.heap.size w wr
  mb : w.heap.size ≤ mb
theorem UnI.step {w wr : World} {mb k : Nat} {bs : List ByteArray} (h : UnI w mb bs k wr) (hk : k < bs.length) : ∃ w', (Instr.mapUpdate 89 (.map (some mb)) (.string bs[k]) (.agg #[])).run Tryd.prog wr = .ok () w' ∧ UnI w mb bs (k + 1) w' := by
  obtain ⟨es, clock, ks, hm, hmem, hle, hiff⟩ := h.ex
  have ht : bs.take (k + 1) = bs.take k ++ [bs[k]] := List.take_succ_eq_append_getElem hk
  have hmb := h.mb
  by_cases hin : bs[k] ∈ ks
  · obtain ⟨w', es', h1, h2, h3⟩ := hm.again _ hin
    refine ⟨w', h1, ⟨es', clock, ks, h2, fun x => ?_, by omega, ?_⟩, h.below.trans (h3.toBelow h.below.size fun j e => by omega), hmb⟩
    · rw [ht, List.mem_append, List.mem_singleton, hmem]
      constructor
      · exact .inl
      · rintro (hx | rfl)
        · exact hx
        · exact (hmem _).1 hin
    · constructor
      · intro e; omega
      · intro hn
        rw [ht] at hn
        have := List.nodup_append.1 hn
        exact absurd rfl (this.2.2 _ ((hmem _).1 hin) _ (List.mem_singleton.2 rfl))
  · obtain ⟨h2, h3⟩ := hm.put _ hin
    refine ⟨_, hm.upd _ hin, ⟨_, _, _, h2, fun x => ?_, by simp; omega, ?_⟩, h.below.trans (h3.toBelow h.below.size fun j e => by omega), hmb⟩
    · rw [ht, List.mem_append, List.mem_append, hmem]
    · rw [ht, List.length_append, List.length_singleton]
      constructor
      · intro e
        refine List.nodup_append.2 ⟨hiff.1 (by omega), by simp, fun a ha b hb => ?_⟩
        rw [List.mem_singleton] at hb
        subst hb
        exact fun e => hin (by rw [← e]; exact (hmem _).2 ha)
      · intro hn
        have := hiff.2 (List.nodup_append.1 hn).1
        omega
theorem nodup_nmB {ns : List (List UInt8)} : (ns.map nmB).Nodup ↔ ns.Nodup := by
  constructor
  · intro h
    exact (List.pairwise_map.1 h).imp fun hab e => hab (by rw [e])
  · intro h
    exact List.pairwise_map.2 (h.imp fun hab e => hab (nmB_inj e))

set_option maxRecDepth 100000 in
set_option maxHeartbeats 2000000 in
theorem unlike_calls (na : Option Addr) (nl nc : Nat) (ns : List (List UInt8)) (w : World) (hl : ns.length = nl) (hnl : nl ≤ 9223372036854775807) (hv : VAt w na (ns.map strV)) :
    Calls Tryd.prog 48 #[.slice na nl nc] w fun e w' => e = .returned (.bool (decide ns.Nodup)) ∧ Below w.heap.size w w' := by
  have hmk : ∀ W : World, (Instr.makeMap 89 (some (.int .i64 (nl : Int)))).run Tryd.prog W = .ok (.map (some W.heap.size)) (W.alloc (.map #[] 0)) := fun W => by simp [Instr.makeMap, asInt, asIntOf, Result.andThen]
  obtain ⟨w1, Hw1⟩ : ∃ w1, Hid (w1 = w.alloc (.map #[] 0)) := ⟨_, rfl⟩
  obtain ⟨mb, Hmb⟩ : ∃ mb, Hid (mb = w.heap.size) := ⟨_, rfl⟩
  have HI : Hid (UnI w mb (ns.map nmB) 0 w1) := by
    refine ⟨⟨#[], 0, [], ⟨by rw [Hw1.out, Hmb.out]; exact heap_alloc_new w _, stamped_empty 0, rfl, fun e he => (by simp at he)⟩, fun x => by simp, Nat.le_refl _, by simp⟩, by rw [Hw1.out]; exact below_new _ _, by rw [Hmb.out]; exact Nat.le_refl _⟩
  have HV : Hid (VAt w na (ns.map strV) ∧ ns.length = nl) := ⟨hv, hl⟩
  clear hv hl
  go_enter Tryd.func48, Tryd.ntmps48
  go_upto_region 2 with fail
  rw [← Hw1.out, ← Hmb.out]
  clear Hw1 Hmb hmk
  go_wp2
  go_loopw [5, 11] (fun x i wr => ∃ k : Nat, k ≤ nl ∧ i = .int .i64 (k : Int) ∧ Hid (UnI w mb (ns.map nmB) k wr)) (fun _ i _ => nl - (intOf i).toNat)
  case atStart => exact ⟨0, Nat.zero_le _, rfl, HI⟩
  case round =>
    clear HI
    obtain ⟨k, hk, rfl, HI⟩ := hrel
    by_cases hlt : k < nl
    · have hk1 : k < (ns.map strV).length := by rw [List.length_map, HV.out.2]; exact hlt
      have hk2 : k < (ns.map nmB).length := by rw [List.length_map, HV.out.2]; exact hlt
      obtain ⟨b, off, rfl, hc⟩ := (HV.out.1.below HI.out.below) k hk1
      obtain ⟨w', hup, hn⟩ := HI.out.step hk2
      obtain ⟨x, Hx⟩ : ∃ x : ByteArray, Hid ((ns.map strV)[k]'hk1 = .string x ∧ (ns.map nmB)[k]'hk2 = x) := ⟨_, by simp [strV], rfl⟩
      rw [Hx.out.1] at hc
      rw [Hx.out.2] at hup
      have HN : Hid (UnI w mb (ns.map nmB) (k + 1) w') := hn
      clear hn HI Hx hk1 hk2
      go_wp2
      go_roundw
      case rel => exact ⟨k + 1, by omega, by go_num, HN⟩
      case measure => simp [intOf]; omega
    · obtain ⟨es, clock, ks, hm, hmem, hle, hiff⟩ := HI.out.ex
      have HB : Hid (Below w.heap.size w wr) := HI.out.below
      have hkn : k = nl := by omega
      have HR : Hid (decide (ns.Nodup) = decide (es.size = nl)) := by
        rw [Hid]
        refine decide_eq_decide.2 ?_
        rw [len_mapT hm, ← hkn, hiff, List.take_of_length_le (by rw [List.length_map, HV.out.2]; omega)]
        exact nodup_nmB.symm
      have hblk := hm.blk
      have hln : (Builtin.len_ #[89] 3 #[.map (some mb)]).run Tryd.prog wr = .ok (.int .i64 (es.size : Int)) wr := by
        simp [Builtin.len_, MapKept.run_getObj_map hblk, Result.andThen, run_underlying Tryd.underlying89, goInt]
      clear HI hm hmem hle hiff
      go_wp2
      go_ret
      rw [HR.out]
      refine ⟨?_, HB.out⟩
      show Ending.returned (.bool _) = _
      congr 2
      rw [Bool.eq_iff_iff]
      simp
      omega
end Go.Proofs.YtelhgjepjieocaaDoor
