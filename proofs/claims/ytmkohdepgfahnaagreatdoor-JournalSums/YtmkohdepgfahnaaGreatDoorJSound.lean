/- Layer 13 (journal): IndexFunc and ContainsFunc with isOdd, isSound. -/
import Derived.Test.YtmkohdepgfahnaaGreatDoorJOdd
namespace Go.Proofs.YtmkohdepgfahnaaGreatDoor
open Go.RowKit
set_option linter.unusedVariables false

structure OV.ok (x : OV) : Prop where
  small : x.o.small
  len : x.o.svc.tags.length ≤ 140737488355328
def oddAt (l : List OV) : Int := match l.findIdx? (fun x => !sndB x.o) with | some i => i | none => -1
theorem odd_hit {l : List OV} {k : Nat} (hk : k < l.length) (h : (!sndB l[k].o) = true) (hb : noneTo (fun x : OV => !sndB x.o) l k) : (k : Int) = oddAt l := by
  have e : l.findIdx? (fun x => !sndB x.o) = some k := by
    rw [List.findIdx?_eq_some_iff_getElem]
    exact ⟨hk, h, fun j hj => by have := hb j (by omega) hj; simpa using this⟩
  unfold oddAt
  rw [e]
theorem odd_none {l : List OV} {k : Nat} (hk : l.length ≤ k) (hb : noneTo (fun x : OV => !sndB x.o) l k) : -1 = oddAt l := by
  have e : l.findIdx? (fun x => !sndB x.o) = none := by
    rw [List.findIdx?_eq_none_iff]
    intro x hx
    obtain ⟨j, hj, rfl⟩ := List.getElem_of_mem hx
    have := hb j hj (by omega)
    simpa using this
  unfold oddAt
  rw [e]
theorem odd_all (l : List OV) : decide (0 ≤ oddAt l) = !(ops l).all sndB := by
  unfold oddAt
  cases h : l.findIdx? (fun x => !sndB x.o) with
  | none =>
    rw [List.findIdx?_eq_none_iff] at h
    have : (ops l).all sndB = true := by
      rw [List.all_eq_true]
      intro o ho
      obtain ⟨x, hx, rfl⟩ := List.mem_map.1 ho
      have := h x hx
      simpa using this
    rw [this]
    rfl
  | some i =>
    rw [List.findIdx?_eq_some_iff_getElem] at h
    obtain ⟨hi, h1, _⟩ := h
    have : (ops l).all sndB = false := by
      rw [List.all_eq_false]
      exact ⟨l[i].o, List.mem_map.2 ⟨_, List.getElem_mem hi, rfl⟩, by simpa using h1⟩
    rw [this]
    simp

set_option maxRecDepth 100000 in
set_option maxHeartbeats 4000000 in
theorem indexOdd_calls (ao : Option Addr) (c : Nat) (l : List OV) (f : Value) (w : World) (hf : f = .func (.func 36) #[] #[]) (hv : Vs w) (hl : l.length ≤ 140737488355328) (hok : ∀ x ∈ l, x.ok) (hat : OpsAt w ao l) :
    Calls Tryz.prog 51 #[.slice ao l.length c, f] w fun e w' => e = .returned (.int .i64 (oddAt l)) ∧ Below w.heap.size w w' := by
  subst hf
  have HV : Hid (Vs w) := hv
  have HK : Hid (∀ k (h : k < l.length), l[k].ok) := fun k h => hok _ (List.getElem_mem h)
  have HAT : Hid (OpsAt w ao l) := hat
  clear hok hat hv
  go_enter Tryz.func51, Tryz.ntmps51
  go_wp2
  go_loopw [8] (fun i wr => ∃ k : Nat, k ≤ l.length ∧ i = .int .i64 k ∧ Hid (noneTo (fun x : OV => !sndB x.o) l k) ∧ Hid (Below w.heap.size w wr)) (fun i _ => l.length - (intOf i).toNat)
  case atStart => exact ⟨0, Nat.zero_le _, rfl, noneTo.zero _ _, Below.refl _ _⟩
  case round =>
    obtain ⟨k, hk, rfl, HNo, HB⟩ := hrel
    by_cases hlt : k < l.length
    · obtain ⟨b, off, rfl, hrange⟩ := (HAT.out.below HB.out).at k hlt
      obtain ⟨y, Hy⟩ : ∃ y, Hid (y = l[k]'hlt) := ⟨_, rfl⟩
      have HYok : Hid y.ok := by rw [Hy.out]; exact HK.out k hlt
      have HTG : Hid (CellsAt wr y.ta (y.o.svc.tags.map Value.string)) := by rw [Hy.out]; exact ((HAT.out.below HB.out).tags _ (List.getElem_mem hlt))
      have HRG : Hid (wr.rangeAt b (off + k * 21) y.v.toList) := by rw [Hy.out]; exact hrange
      clear hrange
      go_upto_region 4 with fail
      iterate 14 go_step
      refine wp_load_ov rfl rfl HRG.out ?_
      go_wp2_with fail
      refine (isOdd_calls y wr (HV.out.stay HB.out) HYok.out.small HYok.out.len HTG.out).mono ?_
      rintro e w2 ⟨rfl, hb2⟩
      have HB2 : Hid (Below w.heap.size w w2) := HB.out.trans (hb2.mono HB.out.size)
      clear hb2 HRG HTG HB
      cases hd : sndB y.o with
      | true =>
        have HN2 : Hid (noneTo (fun x : OV => !sndB x.o) l (k + 1)) := HNo.out.succ hlt (by simp only [← Hy.out, hd]; rfl)
        clear hd
        go_wp2
        go_roundw
        case rel => exact ⟨k + 1, by omega, by go_num, HN2, HB2⟩
        case measure => simp [intOf]; omega
      | false =>
        have HE : Hid ((k : Int) = oddAt l) := odd_hit hlt (by simp only [← Hy.out, hd]; rfl) HNo.out
        clear hd
        go_wp2
        go_ret
        exact ⟨ret_num HE.out, HB2.out⟩
    · have HE : Hid (-1 = oddAt l) := odd_none (by omega) HNo.out
      go_wp2
      go_ret
      exact ⟨ret_num HE.out, HB.out⟩

set_option maxRecDepth 100000 in
set_option maxHeartbeats 1000000 in
theorem containsOdd_calls (ao : Option Addr) (c : Nat) (l : List OV) (w : World) (hv : Vs w) (hl : l.length ≤ 140737488355328) (hok : ∀ x ∈ l, x.ok) (hat : OpsAt w ao l) :
    Calls Tryz.prog 35 #[.slice ao l.length c, .func (.func 36) #[] #[]] w fun e w' => e = .returned (.bool (!(ops l).all sndB)) ∧ Below w.heap.size w w' := by
  have HC : Hid (Calls Tryz.prog 51 #[.slice ao l.length c, .func (.func 36) #[] #[]] w fun e w' => e = .returned (.int .i64 (oddAt l)) ∧ Below w.heap.size w w') := indexOdd_calls ao c l _ w rfl hv hl hok hat
  have HE : Hid (decide (0 ≤ oddAt l) = !(ops l).all sndB) := odd_all l
  clear hv hl hok hat
  go_enter Tryz.func35, Tryz.ntmps35
  go_wp2_with fail
  refine HC.out.mono ?_
  rintro e w1 ⟨rfl, hb1⟩
  clear HC
  go_wp2
  go_ret
  exact ⟨ret_bool HE.out, hb1⟩

def entV (i : Int) (ao : Option Addr) (n c : Nat) : Array Value := #[.int .u64 i, .slice ao n c]
set_option maxRecDepth 100000 in
set_option maxHeartbeats 1000000 in
theorem isSound_calls (i : Int) (ao : Option Addr) (c : Nat) (l : List OV) (w : World) (hv : Vs w) (hl : l.length ≤ 140737488355328) (hok : ∀ x ∈ l, x.ok) (hat : OpsAt w ao l) :
    Calls Tryz.prog 23 #[.agg (entV i ao l.length c)] w fun e w' => e = .returned (.bool (soundB (ops l))) ∧ Below w.heap.size w w' := by
  have HC : Hid (∀ w', Below w.heap.size w w' → Calls Tryz.prog 35 #[.slice ao l.length c, .func (.func 36) #[] #[]] w' fun e w'' => e = .returned (.bool (!(ops l).all sndB)) ∧ Below w'.heap.size w' w'') := fun w' h => containsOdd_calls ao c l w' (hv.stay h) hl hok (hat.below h)
  have hlen : (ops l).length = l.length := by simp [ops]
  obtain ⟨R, HR⟩ : ∃ x, Hid (x = soundB (ops l)) := ⟨_, rfl⟩
  rw [← HR.out]
  have HRE : Hid (R = (decide (1 ≤ l.length) && decide (l.length ≤ 64) && (ops l).all sndB)) := by show _ = _; rw [HR.out]; unfold soundB; rw [hlen]
  clear HR hlen hv hok hat
  obtain ⟨n, Hn⟩ : ∃ x, Hid (x = l.length) := ⟨_, rfl⟩
  rw [← Hn.out] at HC HRE hl ⊢
  clear Hn
  obtain ⟨wx, Hwx⟩ : ∃ x, Hid (x = w.alloc (.cells (entV i ao n c) 31)) := ⟨_, rfl⟩
  have KA : Hid (Blk wx w.heap.size (entV i ao n c) 31) := by rw [Hwx.out]; exact Blk.new _ _ _
  have HB : Hid (Below w.heap.size w wx) := by rw [Hwx.out]; exact below_new w _
  have c1 : wx.cell? ⟨w.heap.size, 1, none⟩ = some (.slice ao n c) := KA.out.cell 1 rfl
  by_cases h0 : n = 0
  · have HF : Hid (R = false) := by show _ = _; rw [HRE.out, h0]; rfl
    have q : ((n : Int) == 0) = true := by simp [h0]
    clear h0
    go_enter Tryz.func23, Tryz.ntmps23
    go_upto_region 1 with fail
    rw [← Hwx.out]
    clear Hwx
    go_wp2
    go_ret
    exact ⟨ret_bool HF.out.symm, HB.out⟩
  have q : ((n : Int) == 0) = false := by simp [h0]
  by_cases h64 : n ≤ 64
  · have HF : Hid (R = (ops l).all sndB) := by
      show _ = _
      rw [HRE.out, show decide (1 ≤ n) = true from by simp; omega, show decide (n ≤ 64) = true from by simpa using h64]
      simp
    have q2 : ¬ (64 : Int) < (n : Int) := by omega
    clear h0
    obtain ⟨D, HD⟩ : ∃ x, Hid (x = (ops l).all sndB) := ⟨_, rfl⟩
    rw [← HD.out] at HC HF
    clear HD
    go_enter Tryz.func23, Tryz.ntmps23
    go_upto_region 1 with fail
    rw [← Hwx.out]
    clear Hwx
    go_wp2_with fail
    refine (HC.out wx HB.out).mono ?_
    rintro e w1 ⟨rfl, hb1⟩
    have HB1 : Hid (Below w.heap.size w w1) := HB.out.trans (hb1.mono HB.out.size)
    clear HC hb1 c1
    go_wp2
    go_ret
    exact ⟨ret_bool (by rw [HF.out]), HB1.out⟩
  · have HF : Hid (R = false) := by
      show _ = _
      rw [HRE.out, show decide (n ≤ 64) = false from by simpa using h64]
      simp
    have q2 : (64 : Int) < (n : Int) := by omega
    clear h0
    go_enter Tryz.func23, Tryz.ntmps23
    go_upto_region 1 with fail
    rw [← Hwx.out]
    clear Hwx
    go_wp2
    go_ret
    exact ⟨ret_bool HF.out.symm, HB.out⟩
end Go.Proofs.YtmkohdepgfahnaaGreatDoor
