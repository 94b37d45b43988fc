/- Layer 18 (json): unlike. -/
import Derived.Test.YtkpjfmnohdolaaaDoorJxSound
namespace Go.Proofs.YtkpjfmnohdolaaaDoor
open Go.RowKit Go.MapKept Go.Sort
set_option linter.unusedVariables false

/-- Behind k names. -/
structure UnI (w : World) (mb : Nat) (bs : List ByteArray) (k : Nat) (wr : World) : Prop where
  ex : ∃ es clock ks, MapAt wr mb es clock ks ∧ (∀ x, x ∈ ks ↔ x ∈ bs.take k) ∧ ks.length ≤ k ∧ (ks.length = k ↔ (bs.take k).Nodup)
  below : Below w.heap.size w wr
  mb : w.heap.size ≤ mb
theorem UnI.step {w wr : World} {mb k : Nat} {bs : List ByteArray} (h : UnI w mb bs k wr) (hk : k < bs.length) : ∃ w', (Instr.mapUpdate 87 (.map (some mb)) (.string bs[k]) (.agg #[])).run Tryd.prog wr = .ok () w' ∧ UnI w mb bs (k + 1) w' := by
  obtain ⟨es, clock, ks, hm, hmem, hle, hiff⟩ := h.ex
  have ht : bs.take (k + 1) = bs.take k ++ [bs[k]] := List.take_succ_eq_append_getElem hk
  have hmb := h.mb
  by_cases hin : bs[k] ∈ ks
  · obtain ⟨w', es', h1, h2, h3⟩ := hm.again _ hin
    refine ⟨w', h1, ⟨es', clock, ks, h2, fun x => ?_, by omega, ?_⟩, h.below.trans (h3.toBelow h.below.size fun j e => by omega), hmb⟩
    · rw [ht, List.mem_append, List.mem_singleton, hmem]
      constructor
      · exact .inl
      · rintro (hx | rfl)
        · exact hx
        · exact (hmem _).1 hin
    · constructor
      · intro e; omega
      · intro hn
        rw [ht] at hn
        have := List.nodup_append.1 hn
        exact absurd rfl (this.2.2 _ ((hmem _).1 hin) _ (List.mem_singleton.2 rfl))
  · obtain ⟨h2, h3⟩ := hm.put _ hin
    refine ⟨_, hm.upd _ hin, ⟨_, _, _, h2, fun x => ?_, by simp; omega, ?_⟩, h.below.trans (h3.toBelow h.below.size fun j e => by omega), hmb⟩
    · rw [ht, List.mem_append, List.mem_append, hmem]
    · rw [ht, List.length_append, List.length_singleton]
      constructor
      · intro e
        refine List.nodup_append.2 ⟨hiff.1 (by omega), by simp, fun a ha b hb => ?_⟩
        rw [List.mem_singleton] at hb
        subst hb
        exact fun e => hin (by rw [← e]; exact (hmem _).2 ha)
      · intro hn
        have := hiff.2 (List.nodup_append.1 hn).1
        omega
theorem nodup_nmB {ns : List (List UInt8)} : (ns.map nmB).Nodup ↔ ns.Nodup := by
  constructor
  · intro h
    exact (List.pairwise_map.1 h).imp fun hab e => hab (by rw [e])
  · intro h
    exact List.pairwise_map.2 (h.imp fun hab e => hab (nmB_inj e))

set_option maxRecDepth 100000 in
set_option maxHeartbeats 2000000 in
theorem unlike_calls (na : Option Addr) (nl nc : Nat) (ns : List (List UInt8)) (w : World) (hl : ns.length = nl) (hnl : nl ≤ 9223372036854775807) (hv : VAt w na (ns.map strV)) :
    Calls Tryd.prog 48 #[.slice na nl nc] w fun e w' => e = .returned (.bool (decide ns.Nodup)) ∧ Below w.heap.size w w' := by
  have hmk : ∀ W : World, (Instr.makeMap 87 (some (.int .i64 (nl : Int)))).run Tryd.prog W = .ok (.map (some W.heap.size)) (W.alloc (.map #[] 0)) := fun W => by simp [Instr.makeMap, asInt, asIntOf, Result.andThen]
  obtain ⟨w1, Hw1⟩ : ∃ w1, Hid (w1 = w.alloc (.map #[] 0)) := ⟨_, rfl⟩
  obtain ⟨mb, Hmb⟩ : ∃ mb, Hid (mb = w.heap.size) := ⟨_, rfl⟩
  have HI : Hid (UnI w mb (ns.map nmB) 0 w1) := by
    refine ⟨⟨#[], 0, [], ⟨by rw [Hw1.out, Hmb.out]; exact heap_alloc_new w _, stamped_empty 0, rfl, fun e he => (by simp at he)⟩, fun x => by simp, Nat.le_refl _, by simp⟩, by rw [Hw1.out]; exact below_new _ _, by rw [Hmb.out]; exact Nat.le_refl _⟩
  have HV : Hid (VAt w na (ns.map strV) ∧ ns.length = nl) := ⟨hv, hl⟩
  clear hv hl
  go_enter Tryd.func48, Tryd.ntmps48
  go_upto_region 2 with fail
  rw [← Hw1.out, ← Hmb.out]
  clear Hw1 Hmb hmk
  go_wp2
  go_loopw [5, 11] (fun x i wr => ∃ k : Nat, k ≤ nl ∧ i = .int .i64 (k : Int) ∧ Hid (UnI w mb (ns.map nmB) k wr)) (fun _ i _ => nl - (intOf i).toNat)
  case atStart => exact ⟨0, Nat.zero_le _, rfl, HI⟩
  case round =>
    clear HI
    obtain ⟨k, hk, rfl, HI⟩ := hrel
    by_cases hlt : k < nl
    · have hk1 : k < (ns.map strV).length := by rw [List.length_map, HV.out.2]; exact hlt
      have hk2 : k < (ns.map nmB).length := by rw [List.length_map, HV.out.2]; exact hlt
      obtain ⟨b, off, rfl, hc⟩ := (HV.out.1.below HI.out.below) k hk1
      obtain ⟨w', hup, hn⟩ := HI.out.step hk2
      obtain ⟨x, Hx⟩ : ∃ x : ByteArray, Hid ((ns.map strV)[k]'hk1 = .string x ∧ (ns.map nmB)[k]'hk2 = x) := ⟨_, by simp [strV], rfl⟩
      rw [Hx.out.1] at hc
      rw [Hx.out.2] at hup
      have HN : Hid (UnI w mb (ns.map nmB) (k + 1) w') := hn
      clear hn HI Hx hk1 hk2
      go_wp2
      go_roundw
      case rel => exact ⟨k + 1, by omega, by go_num, HN⟩
      case measure => simp [intOf]; omega
    · obtain ⟨es, clock, ks, hm, hmem, hle, hiff⟩ := HI.out.ex
      have HB : Hid (Below w.heap.size w wr) := HI.out.below
      have hkn : k = nl := by omega
      have HR : Hid (decide (ns.Nodup) = decide (es.size = nl)) := by
        rw [Hid]
        refine decide_eq_decide.2 ?_
        rw [len_mapT hm, ← hkn, hiff, List.take_of_length_le (by rw [List.length_map, HV.out.2]; omega)]
        exact nodup_nmB.symm
      have hblk := hm.blk
      have hln : (Builtin.len_ #[87] 3 #[.map (some mb)]).run Tryd.prog wr = .ok (.int .i64 (es.size : Int)) wr := by
        simp [Builtin.len_, MapKept.run_getObj_map hblk, Result.andThen, run_underlying Tryd.underlying87, goInt]
      clear HI hm hmem hle hiff
      go_wp2
      go_ret
      rw [HR.out]
      refine ⟨?_, HB.out⟩
      show Ending.returned (.bool _) = _
      congr 2
      rw [Bool.eq_iff_iff]
      simp
      omega
end Go.Proofs.YtkpjfmnohdolaaaDoor
