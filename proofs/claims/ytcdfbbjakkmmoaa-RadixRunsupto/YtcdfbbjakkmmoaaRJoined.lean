import Derived.Test.YtcdfbbjakkmmoaaRKids
import Derived.BigRegion
/- Layer 3 (radix): commonLen, Reverse of two, joined. -/
namespace Go.Proofs.Ytcdfbbjakkmmoaa
open Go.RowKit
set_option linter.unusedVariables false

set_option maxRecDepth 100000 in
theorem common_calls (a b : ByteArray) (w : World) (ha : a.size ≤ 140737488351296) (hb : b.size ≤ 140737488351296) :
    Calls Try.prog 72 #[.string a, .string b] w fun e w' => ∃ n : Nat, e = .returned (.int .i64 n) ∧ n ≤ a.size ∧ n ≤ b.size ∧ (∀ j (h1 : j < a.size) (h2 : j < b.size), j < n → a[j] = b[j]) ∧ (∀ (h1 : n < a.size) (h2 : n < b.size), a[n] ≠ b[n]) ∧ ∃ m, w' = w.drewN m := by
  obtain ⟨m, HM⟩ : ∃ m : Nat, Hid (m = min a.size b.size) := ⟨_, rfl⟩
  have hm1 : m ≤ a.size := by rw [HM.out]; omega
  have hm2 : m ≤ b.size := by rw [HM.out]; omega
  have hmin : min (a.size : Int) (b.size : Int) = (m : Int) := by rw [HM.out, Int.min_def, Nat.min_def]; split <;> split <;> omega
  have HMX : Hid (m < a.size → m < b.size → False) := fun h1 h2 => by rw [HM.out] at h1 h2; omega
  clear HM
  go_enter Try.func72, Try.ntmps72
  go_wp2
  clear hmin
  go_loopw [13] (fun i wr => ∃ k : Nat, k ≤ m ∧ i = .int .i64 k ∧ Hid (∀ j (h1 : j < a.size) (h2 : j < b.size), j < k → a[j] = b[j]) ∧ Hid (∃ n, wr = w.drewN n)) (fun i _ => m - (intOf i).toNat)
  case atStart => exact ⟨0, Nat.zero_le _, rfl, fun j _ _ h => by omega, ⟨0, rfl⟩⟩
  case round =>
    obtain ⟨k, hk, rfl, HE, HW⟩ := hrel
    by_cases hlt : k < m
    · have hka : k < a.size := by omega
      have hkb : k < b.size := by omega
      by_cases he : a[k] = b[k]
      · have hq : ((a[k].toNat : Int) == (b[k].toNat : Int)) = true := by simp [he]
        have HQ : Hid (a[k] = b[k]) := he
        clear he
        go_wp2
        go_quiet (fail)
        go_wp2
        go_roundw
        case rel => exact ⟨k + 1, by omega, by go_num, fun j h1 h2 h => by
          by_cases hjk : j = k
          · subst hjk; exact HQ.out
          · exact HE.out j h1 h2 (by omega), by obtain ⟨n, rfl⟩ := HW.out; exact ⟨_, World.drewN_drewN ..⟩⟩
        case measure => simp [intOf]; omega
      · have hq : ((a[k].toNat : Int) == (b[k].toNat : Int)) = false := by
          rw [beq_eq_false_iff_ne]; intro h; exact he (UInt8.toNat_inj.1 (by omega))
        have HQ : Hid (a[k] ≠ b[k]) := he
        clear he
        go_wp2
        go_quiet (fail)
        go_wp2
        go_ret
        exact ⟨k, rfl, by omega, by omega, HE.out, fun _ _ => HQ.out, by obtain ⟨n, rfl⟩ := HW.out; exact ⟨_, World.drewN_drewN ..⟩⟩
    · have hkm : k = m := by omega
      subst hkm
      go_wp2
      go_ret
      exact ⟨k, rfl, hm1, hm2, HE.out, fun h1 h2 => (HMX.out h1 h2).elim, HW.out⟩

set_option maxRecDepth 100000 in
set_option maxHeartbeats 1600000 in
theorem reverse2_calls (A B : Option Addr) (g c : Nat) (w : World) (hg : w.heap[g]? = some (.cells #[.pointer A, .pointer B] 35)) :
    Calls Try.prog 73 #[.slice (some ⟨g, 0, none⟩) 2 c] w fun e w' => e = .returned (.tuple #[]) ∧ w'.heap[g]? = some (.cells #[.pointer B, .pointer A] 35) ∧ Below g w w' := by
  have c0 : w.cell? ⟨g, 0, none⟩ = some (.pointer A) := by rw [cell_of_blk hg]; rfl
  have c1 : w.cell? ⟨g, 1, none⟩ = some (.pointer B) := by rw [cell_of_blk hg]; rfl
  have z0 : w.frozen? ⟨g, 0, none⟩ = false := frozen_of_blk hg
  have z1 : w.frozen? ⟨g, 1, none⟩ = false := frozen_of_blk hg
  have HG : Hid (w.heap[g]? = some (.cells #[.pointer A, .pointer B] 35)) := hg
  clear hg
  go_enter Try.func73, Try.ntmps73
  go_wp2
  go_loopw [2, 3] (fun i j wr => (i = .int .i64 0 ∧ j = .int .i64 1 ∧ wr = w) ∨ (i = .int .i64 1 ∧ j = .int .i64 0 ∧ Hid (wr.heap[g]? = some (.cells #[.pointer B, .pointer A] 35) ∧ Below g w wr))) (fun i _ _ => 1 - (intOf i).toNat)
  case atStart => exact .inl ⟨rfl, rfl, rfl⟩
  case round =>
    rcases hrel with ⟨rfl, rfl, rfl⟩ | ⟨rfl, rfl, HF⟩
    · go_wp2
      go_region
      all_goals go_wp2
      go_roundw
      case rel =>
        refine .inr ⟨rfl, rfl, ?_, ?_⟩
        · show ((wr.setCell ⟨g, 0, none⟩ (.pointer B)).setCell ⟨g, 1, none⟩ (.pointer A)).heap[g]? = _
          rw [setCell_blk (setCell_blk HG.out _)]
          simp
        · exact (((Below.refl g wr).setCell (p := ⟨g, 0, none⟩) (Nat.le_refl _) _).setCell (p := ⟨g, 1, none⟩) (Nat.le_refl _) _).drew
      case measure => simp [intOf]
    · go_wp2
      go_end0
      exact ⟨rfl, HF.out⟩
end Go.Proofs.Ytcdfbbjakkmmoaa

/- Layer 3 (radix): joined. -/
namespace Go.Proofs.Ytcdfbbjakkmmoaa
open Go.RowKit
set_option linter.unusedVariables false
variable {R : Rg} {O : Nat → Prop}

/-- What takes n's place when k, which doesn't begin with n's path, comes beside it or above it. -/
inductive JoinR (N : Nat) (k : ByteArray) (v : Vl) (n : Tr) : Tr → Prop
  | above {a g} (ha : N ≤ a) (hg : N ≤ g) (hp : k.data.toList <+: n.path) (hl : k.size < n.p.size) : JoinR N k v n (.nd a k (some v) [n] g)
  | less {m a g l gl} (ha : N ≤ a) (hg : N ≤ g) (hl : N ≤ l) (hgl : N ≤ gl) (h1 : m < k.size) (h2 : m < n.p.size) (he : k.data.toList.take m = n.path.take m) (hlt : k.data.toList.getD m 0 < n.byte m) : JoinR N k v n (.nd a (k.extract 0 m) none [.nd l k (some v) [] gl, n] g)
  | more {m a g l gl} (ha : N ≤ a) (hg : N ≤ g) (hl : N ≤ l) (hgl : N ≤ gl) (h1 : m < k.size) (h2 : m < n.p.size) (he : k.data.toList.take m = n.path.take m) (hlt : n.byte m < k.data.toList.getD m 0) : JoinR N k v n (.nd a (k.extract 0 m) none [n, .nd l k (some v) [] gl] g)

theorem JoinR.lower {N M : Nat} {k : ByteArray} {v : Vl} {n T : Tr} (h : JoinR N k v n T) (hm : M ≤ N) : JoinR M k v n T := by
  cases h with
  | above ha hg hp hl => exact .above (Nat.le_trans hm ha) (Nat.le_trans hm hg) hp hl
  | less ha hg hl hgl h1 h2 he hlt => exact .less (Nat.le_trans hm ha) (Nat.le_trans hm hg) (Nat.le_trans hm hl) (Nat.le_trans hm hgl) h1 h2 he hlt
  | more ha hg hl hgl h1 h2 he hlt => exact .more (Nat.le_trans hm ha) (Nat.le_trans hm hg) (Nat.le_trans hm hl) (Nat.le_trans hm hgl) h1 h2 he hlt

theorem take_eq_of {a b : ByteArray} {m : Nat} (h1 : m ≤ a.size) (h2 : m ≤ b.size) (h : ∀ j (h1 : j < a.size) (h2 : j < b.size), j < m → a[j] = b[j]) : b.data.toList.take m = a.data.toList.take m := by
  apply List.ext_getElem
  · simp; omega
  · intro i hi1 hi2
    simp at hi1
    rw [List.getElem_take, List.getElem_take]
    exact (h i (by omega) (by omega) (by omega)).symm

theorem WAt.any {w : World} {b c : Nat} {f : Bool} (h : WAt w b c f) : ∃ c f, WAt w b c f := ⟨_, _, h⟩

set_option maxRecDepth 100000 in
set_option maxHeartbeats 1600000 in
theorem joined_above (n : Tr) (k : ByteArray) (v : Vl) (w : World) (h : TAt R w n) (hv : VAt R.old w v) (hks : k.size ≤ 140737488351296) (hlt : k.size < n.p.size) (hp : k.data.toList <+: n.path) (hR : ∀ b, R b → b < w.heap.size) :
    Calls Try.prog 62 #[.pointer (some ⟨n.a, 0, none⟩), .string k, .pointer (some ⟨v.a, 0, none⟩)] w fun e w' => ∃ T' : Tr, e = .returned (.pointer (some ⟨T'.a, 0, none⟩)) ∧ Below w.heap.size w w' ∧ TAt R w' T' ∧ JoinR w.heap.size k v n T' := by
  obtain ⟨ao, cap, c0, -, -, -, -, -, -⟩ := h.cells
  have HC := common_calls n.p k w h.psz' hks
  have hpz := h.psz'
  have HH : Hid (TAt R w n) := h
  have HV : Hid (VAt R.old w v) := hv
  have HP : Hid (k.data.toList <+: n.path) := hp
  clear h hv hp
  go_enter Try.func62, Try.ntmps62
  go_wp2_with fail
  refine HC.mono ?_
  clear HC
  rintro e w1 ⟨m, rfl, hm1, hm2, hq1, hq2, hw1⟩
  have hmk : m = k.size := by
    rcases Nat.lt_or_ge m k.size with hc | hc
    · have := hq2 (by omega) hc
      refine absurd ?_ this
      obtain ⟨r, hr⟩ := HP.out
      have e1 : n.p[m] = n.path[m]'(by rw [path_length]; omega) := rfl
      have e2 : k[m] = k.data.toList[m]'(by simpa using hc) := rfl
      rw [e1, e2]
      simp only [← hr]
      rw [List.getElem_append_left]
    · omega
  subst hmk
  have HB1 : Hid (Below w.heap.size w w1) := by obtain ⟨d, rfl⟩ := hw1; exact ⟨rfl, rfl, rfl, Nat.le_refl _, fun _ _ => rfl⟩
  clear hq1 hq2 hw1 c0
  go_wp2_with fail
  refine (clone_calls k w1 (by omega)).mono ?_
  rintro e w2 ⟨rfl, hb2⟩
  have HB2 : Hid (Below w1.heap.size w1 w2) := hb2
  clear hb2
  go_wp2_with fail
  refine (newNode_calls _ _ _ _ _ _).mono ?_
  rintro e w3 ⟨rfl, hb3, hs3, hn3, hw3⟩
  have HN : Hid (Below (w2.heap.size + 1) (w2.alloc (.cells #[.pointer (some ⟨n.a, 0, none⟩)] 35)) w3 ∧ w3.heap[w2.heap.size + 1 + 2]? = some (.cells #[.string k, .pointer (some ⟨v.a, 0, none⟩), .slice (some ⟨w2.heap.size, 0, none⟩) 1 1, .pointer (some ⟨w2.heap.size + 1 + 1, 0, none⟩)] 76) ∧ WAt w3 (w2.heap.size + 1 + 1) (w2.heap.size + 1) false) := by
    simp only [World.size_alloc] at hb3 hn3 hw3
    exact ⟨hb3, hn3, hw3⟩
  clear hb3 hs3 hn3 hw3
  go_wp2
  go_ret
  obtain ⟨hb3, hn3, hw3⟩ := HN.out
  have h02 : Below w.heap.size w w2 := HB1.out.trans (HB2.out.mono HB1.out.size)
  have hba : Below w.heap.size w (w2.alloc (.cells #[.pointer (some ⟨n.a, 0, none⟩)] 35)) := h02.alloc h02.size _
  have h03 : Below w.heap.size w w3 := hba.trans (hb3.mono (by have := h02.size; omega))
  have hsz := h02.size
  have hcell : w3.cell? ⟨w2.heap.size, 0, none⟩ = some (.pointer (some ⟨n.a, 0, none⟩)) := by
    rw [hb3.cell (by show w2.heap.size < w2.heap.size + 1; omega), World.cell?_alloc_mark]; rfl
  refine ⟨.nd (w2.heap.size + 1 + 2) k (some v) [n] (w2.heap.size + 1 + 1), rfl, h03, ?_, .above (by omega) (by omega) HP.out hlt⟩
  refine TAt.laid (x := ⟨some ⟨w2.heap.size, 0, none⟩, 1, [n]⟩) hn3 ⟨?_, by simp, fun e => by cases e⟩ (fun y hy => by cases hy; exact HV.out.below h03) hw3 (fun t ht => by simp at ht; subst ht; exact HH.out.keep h03) hks
  intro i hi
  simp at hi
  subst hi
  exact ⟨_, _, rfl, hcell, fun e => by have := hR _ e; omega⟩

theorem common_mid {a b : ByteArray} {m : Nat} (h1 : m ≤ a.size) (h2 : m ≤ b.size) (he : b.data.toList.take m = a.data.toList.take m) (ha : ¬ a.data.toList <+: b.data.toList) (hb : ¬ b.data.toList <+: a.data.toList) : m < a.size ∧ m < b.size := by
  constructor
  · rcases Nat.lt_or_ge m a.size with h | h
    · exact h
    · refine absurd ?_ ha
      have : m = a.size := by omega
      subst this
      rw [List.take_of_length_le (l := a.data.toList) (by simp)] at he
      rw [← he]
      exact List.take_prefix _ _
  · rcases Nat.lt_or_ge m b.size with h | h
    · exact h
    · refine absurd ?_ hb
      have : m = b.size := by omega
      subst this
      rw [List.take_of_length_le (l := b.data.toList) (by simp)] at he
      rw [he]
      exact List.take_prefix _ _

theorem pair_kids {w : World} {g : Nat} {A B : Tr} (hg : ¬ R g) (h : w.heap[g]? = some (.cells #[.pointer (some ⟨A.a, 0, none⟩), .pointer (some ⟨B.a, 0, none⟩)] 35)) : SlV.At R w ⟨some ⟨g, 0, none⟩, 2, [A, B]⟩ := by
  refine ⟨?_, by simp, fun e => by cases e⟩
  intro i hi
  refine ⟨g, 0, rfl, ?_, hg⟩
  rw [cell_of_blk h]
  match i, hi with
  | 0, _ => rfl
  | 1, _ => rfl
  | n + 2, h => simp at h; omega

set_option maxRecDepth 100000 in
set_option maxHeartbeats 3200000 in
theorem joined_beside (n : Tr) (k : ByteArray) (v : Vl) (w : World) (h : TAt R w n) (hv : VAt R.old w v) (hks : k.size ≤ 140737488351296) (hnp : ¬ n.path <+: k.data.toList) (hkp : ¬ k.data.toList <+: n.path) (hR : ∀ b, R b → b < w.heap.size) :
    Calls Try.prog 62 #[.pointer (some ⟨n.a, 0, none⟩), .string k, .pointer (some ⟨v.a, 0, none⟩)] w fun e w' => ∃ T' : Tr, e = .returned (.pointer (some ⟨T'.a, 0, none⟩)) ∧ Below w.heap.size w w' ∧ TAt R w' T' ∧ JoinR w.heap.size k v n T' := by
  obtain ⟨ao, cap, c0, -, -, -, -, -, -⟩ := h.cells
  have HC := common_calls n.p k w h.psz' hks
  have hpz := h.psz'
  have hna := h.lt
  have HH : Hid (TAt R w n) := h
  have HV : Hid (VAt R.old w v) := hv
  have HP : Hid (¬ n.path <+: k.data.toList ∧ ¬ k.data.toList <+: n.path) := ⟨hnp, hkp⟩
  clear h hv hnp hkp
  go_enter Try.func62, Try.ntmps62
  go_wp2_with fail
  refine HC.mono ?_
  clear HC
  rintro e w1 ⟨m, rfl, hm1, hm2, hq1, hq2, hw1⟩
  have het := take_eq_of hm1 hm2 hq1
  obtain ⟨hma, hmk⟩ := common_mid hm1 hm2 het HP.out.1 HP.out.2
  have HNE : Hid (n.p[m] ≠ k[m]) := hq2 hma hmk
  have HET : Hid (k.data.toList.take m = n.path.take m) := het
  have HB1 : Hid (Below w.heap.size w w1) := by obtain ⟨d, rfl⟩ := hw1; exact ⟨rfl, rfl, rfl, Nat.le_refl _, fun _ _ => rfl⟩
  have hneq : ((m : Int) == (k.size : Int)) = false := by rw [beq_eq_false_iff_ne]; omega
  clear hq1 hq2 hw1 het
  go_wp2_with fail
  refine (clone_calls k w1 (by omega)).mono ?_
  rintro e w2 ⟨rfl, hb2⟩
  have HB2 : Hid (Below w1.heap.size w1 w2) := hb2
  clear hb2
  go_wp2_with fail
  refine (newNode_calls _ _ _ _ _ w2).mono ?_
  rintro e w3 ⟨rfl, hb3, hs3, hn3, hw3⟩
  have HN : Hid (Below w2.heap.size w2 w3 ∧ w3.heap[w2.heap.size + 2]? = some (.cells #[.string k, .pointer (some ⟨v.a, 0, none⟩), .slice none 0 0, .pointer (some ⟨w2.heap.size + 1, 0, none⟩)] 76) ∧ WAt w3 (w2.heap.size + 1) w2.heap.size false) := ⟨hb3, hn3, hw3⟩
  have h02 : Below w.heap.size w w2 := HB1.out.trans (HB2.out.mono HB1.out.size)
  have h03 : Below w.heap.size w w3 := h02.trans (hb3.mono h02.size)
  obtain ⟨w4, HW4⟩ : ∃ w4, Hid (w4 = w3.alloc (.cells #[.pointer (some ⟨n.a, 0, none⟩), .pointer (some ⟨w2.heap.size + 2, 0, none⟩)] 35)) := ⟨_, rfl⟩
  have h34 : Below w3.heap.size w3 w4 := by rw [HW4.out]; exact (Below.refl _ _).alloc (Nat.le_refl _) _
  have h04 : Below w.heap.size w w4 := h03.trans (h34.mono h03.size)
  have hblk : w4.heap[w3.heap.size]? = some (.cells #[.pointer (some ⟨n.a, 0, none⟩), .pointer (some ⟨w2.heap.size + 2, 0, none⟩)] 35) := by rw [HW4.out]; exact heap_alloc_new _ _
  have hs4 : w4.heap.size = w3.heap.size + 1 := by rw [HW4.out]; simp [World.size_alloc]
  have hb3s := h03.size
  have hb2s := h02.size
  have c0' : w4.cell? ⟨n.a, 0, none⟩ = some (.string n.p) := by rw [h04.cell (by exact hna)]; exact c0
  -- the leaf, in every later world
  have HL : Hid (∀ W, Below w3.heap.size w3 W → TAt R W (.nd (w2.heap.size + 2) k (some v) [] (w2.heap.size + 1))) := fun W hW => by
    have h0W : Below w.heap.size w W := h03.trans (hW.mono h03.size)
    refine TAt.laid (x := ⟨none, 0, []⟩) (c := w2.heap.size) ?_ ⟨fun i hi => by simp at hi, Nat.le_refl _, fun _ => rfl⟩ (fun y hy => by cases hy; exact HV.out.below h0W) ?_ (fun t ht => by simp at ht) hks
    · rw [hW.block _ (lt_of_heap hn3)]; exact hn3
    · exact hw3.below hW
  have HF : Hid (Below w.heap.size w w3 ∧ Below w3.heap.size w3 w4 ∧ w4.heap[w3.heap.size]? = some (.cells #[.pointer (some ⟨n.a, 0, none⟩), .pointer (some ⟨w2.heap.size + 2, 0, none⟩)] 35)) := ⟨h03, h34, hblk⟩
  clear hb3 hs3 hn3 hw3 h02 h03 h34 h04 HN hblk c0
  by_cases hlt : k[m] < n.p[m]
  · have hlt' : (k[m].toNat : Int) < (n.p[m].toNat : Int) := u8_lt_int.2 hlt
    have HLT : Hid (k[m] < n.p[m]) := hlt
    clear hlt
    go_wp2
    rw [← HW4.out]
    go_quiet (fail)
    obtain ⟨w5, HW5⟩ : ∃ w5, Hid (w5 = w4.drewN nq) := ⟨_, rfl⟩
    have HF5 : Hid (Below w3.heap.size w3 w5 ∧ w5.heap[w3.heap.size]? = some (.cells #[.pointer (some ⟨n.a, 0, none⟩), .pointer (some ⟨w2.heap.size + 2, 0, none⟩)] 35)) := by
      have hf := HF.out
      refine ⟨?_, ?_⟩
      · rw [HW5.out]; exact ⟨hf.2.1.os, hf.2.1.tape, hf.2.1.output, hf.2.1.size, hf.2.1.block⟩
      · rw [HW5.out]; exact hf.2.2
    rw [← HW5.out]
    clear HW5 HW4 c0'
    go_wp2_with fail
    refine (reverse2_calls _ _ w3.heap.size 2 w5 HF5.out.2).mono ?_
    rintro e w6 ⟨rfl, hr6, hb6⟩
    have HF6 : Hid (Below w3.heap.size w3 w6 ∧ w6.heap[w3.heap.size]? = some (.cells #[.pointer (some ⟨w2.heap.size + 2, 0, none⟩), .pointer (some ⟨n.a, 0, none⟩)] 35)) := ⟨HF5.out.1.trans hb6, hr6⟩
    clear hr6 hb6 HF5
    go_wp2_with fail
    refine (clone_calls (k.extract 0 m) w6 (by simp [ByteArray.size_extract]; omega)).mono ?_
    rintro e w7 ⟨rfl, hb7⟩
    have HB7 : Hid (Below w6.heap.size w6 w7) := hb7
    clear hb7
    go_wp2_with fail
    refine (newNode_calls _ _ _ _ _ w7).mono ?_
    rintro e w8 ⟨rfl, hb8, hs8, hn8, hw8⟩
    have HN8 : Hid (Below w7.heap.size w7 w8 ∧ w8.heap[w7.heap.size + 2]? = some (.cells #[.string (k.extract 0 m), .pointer none, .slice (some ⟨w3.heap.size, 0, none⟩) 2 2, .pointer (some ⟨w7.heap.size + 1, 0, none⟩)] 76) ∧ WAt w8 (w7.heap.size + 1) w7.heap.size false) := ⟨hb8, hn8, hw8⟩
    clear hb8 hs8 hn8 hw8
    go_wp2
    go_ret
    obtain ⟨hb8, hn8, hw8⟩ := HN8.out
    have h36 := HF6.out.1
    have hg6 := HF6.out.2
    have h68 : Below w6.heap.size w6 w8 := HB7.out.trans (hb8.mono HB7.out.size)
    have h38 : Below w3.heap.size w3 w8 := h36.trans (h68.mono h36.size)
    have h08 : Below w.heap.size w w8 := HF.out.1.trans (h38.mono HF.out.1.size)
    have hz6 := h36.size
    have hz7 := HB7.out.size
    have hpair := pair_kids (A := .nd (w2.heap.size + 2) k (some v) [] (w2.heap.size + 1)) (B := n) (R := R) (fun e => by have := hR _ e; omega) ((h68.block _ (lt_of_heap hg6)).trans hg6)
    refine ⟨.nd (w7.heap.size + 2) (k.extract 0 m) none [.nd (w2.heap.size + 2) k (some v) [] (w2.heap.size + 1), n] (w7.heap.size + 1), rfl, h08, ?_,
      .less (by omega) (by omega) (by omega) (by omega) hmk hma HET.out (by rw [getD_key k m hmk, byte_get n m hma]; exact HLT.out)⟩
    refine TAt.laid (x := ⟨some ⟨w3.heap.size, 0, none⟩, 2, [.nd (w2.heap.size + 2) k (some v) [] (w2.heap.size + 1), n]⟩) hn8 hpair (fun y hy => by cases hy) hw8 (fun t ht => ?_) (by simp [ByteArray.size_extract]; omega)
    rcases List.mem_cons.1 ht with rfl | ht
    · exact HL.out w8 h38
    · simp at ht; subst ht; exact HH.out.keep h08
  · have hlt' : ¬ (k[m].toNat : Int) < (n.p[m].toNat : Int) := fun h => hlt (u8_lt_int.1 h)
    have HLT : Hid (n.p[m] < k[m]) := by
      rcases UInt8.lt_or_lt_of_ne HNE.out with h | h
      · exact h
      · exact absurd h hlt
    clear hlt
    go_wp2
    rw [← HW4.out]
    go_quiet (fail)
    obtain ⟨w5, HW5⟩ : ∃ w5, Hid (w5 = w4.drewN nq) := ⟨_, rfl⟩
    have HF5 : Hid (Below w3.heap.size w3 w5 ∧ w5.heap[w3.heap.size]? = some (.cells #[.pointer (some ⟨n.a, 0, none⟩), .pointer (some ⟨w2.heap.size + 2, 0, none⟩)] 35)) := by
      have hf := HF.out
      refine ⟨?_, ?_⟩
      · rw [HW5.out]; exact ⟨hf.2.1.os, hf.2.1.tape, hf.2.1.output, hf.2.1.size, hf.2.1.block⟩
      · rw [HW5.out]; exact hf.2.2
    rw [← HW5.out]
    clear HW5 HW4 c0'
    have HF6 := HF5
    clear HF5
    obtain ⟨w6, HW6⟩ : ∃ w6, Hid (w6 = w5) := ⟨_, rfl⟩
    rw [← HW6.out]
    rw [← HW6.out] at HF6
    clear HW6
    go_wp2_with fail
    refine (clone_calls (k.extract 0 m) w6 (by simp [ByteArray.size_extract]; omega)).mono ?_
    rintro e w7 ⟨rfl, hb7⟩
    have HB7 : Hid (Below w6.heap.size w6 w7) := hb7
    clear hb7
    go_wp2_with fail
    refine (newNode_calls _ _ _ _ _ w7).mono ?_
    rintro e w8 ⟨rfl, hb8, hs8, hn8, hw8⟩
    have HN8 : Hid (Below w7.heap.size w7 w8 ∧ w8.heap[w7.heap.size + 2]? = some (.cells #[.string (k.extract 0 m), .pointer none, .slice (some ⟨w3.heap.size, 0, none⟩) 2 2, .pointer (some ⟨w7.heap.size + 1, 0, none⟩)] 76) ∧ WAt w8 (w7.heap.size + 1) w7.heap.size false) := ⟨hb8, hn8, hw8⟩
    clear hb8 hs8 hn8 hw8
    go_wp2
    go_ret
    obtain ⟨hb8, hn8, hw8⟩ := HN8.out
    have h36 := HF6.out.1
    have hg6 := HF6.out.2
    have h68 : Below w6.heap.size w6 w8 := HB7.out.trans (hb8.mono HB7.out.size)
    have h38 : Below w3.heap.size w3 w8 := h36.trans (h68.mono h36.size)
    have h08 : Below w.heap.size w w8 := HF.out.1.trans (h38.mono HF.out.1.size)
    have hz6 := h36.size
    have hz7 := HB7.out.size
    have hpair := pair_kids (A := n) (B := .nd (w2.heap.size + 2) k (some v) [] (w2.heap.size + 1)) (R := R) (fun e => by have := hR _ e; omega) ((h68.block _ (lt_of_heap hg6)).trans hg6)
    refine ⟨.nd (w7.heap.size + 2) (k.extract 0 m) none [n, .nd (w2.heap.size + 2) k (some v) [] (w2.heap.size + 1)] (w7.heap.size + 1), rfl, h08, ?_,
      .more (by omega) (by omega) (by omega) (by omega) hmk hma HET.out (by rw [getD_key k m hmk, byte_get n m hma]; exact HLT.out)⟩
    refine TAt.laid (x := ⟨some ⟨w3.heap.size, 0, none⟩, 2, [n, .nd (w2.heap.size + 2) k (some v) [] (w2.heap.size + 1)]⟩) hn8 hpair (fun y hy => by cases hy) hw8 (fun t ht => ?_) (by simp [ByteArray.size_extract]; omega)
    rcases List.mem_cons.1 ht with rfl | ht
    · exact HH.out.keep h08
    · simp at ht; subst ht; exact HL.out w8 h38

theorem joined_calls (n : Tr) (k : ByteArray) (v : Vl) (w : World) (h : TAt R w n) (hv : VAt R.old w v) (hks : k.size ≤ 140737488351296) (hnp : ¬ n.path <+: k.data.toList) (hR : ∀ b, R b → b < w.heap.size) :
    Calls Try.prog 62 #[.pointer (some ⟨n.a, 0, none⟩), .string k, .pointer (some ⟨v.a, 0, none⟩)] w fun e w' => ∃ T' : Tr, e = .returned (.pointer (some ⟨T'.a, 0, none⟩)) ∧ Below w.heap.size w w' ∧ TAt R w' T' ∧ JoinR w.heap.size k v n T' := by
  by_cases hkp : k.data.toList <+: n.path
  · refine joined_above n k v w h hv hks ?_ hkp hR
    have h1 := hkp.length_le
    rw [path_length] at h1
    rcases Nat.lt_or_ge k.size n.p.size with hc | hc
    · exact hc
    · refine absurd ?_ hnp
      have : k.data.toList = n.path := hkp.eq_of_length (by rw [path_length]; simp at h1 ⊢; omega)
      rw [this]
      exact List.prefix_refl _
  · exact joined_beside n k v w h hv hks hnp hkp hR
end Go.Proofs.Ytcdfbbjakkmmoaa
