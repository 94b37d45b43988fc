import Derived.Test.YtcdfbbjakkmmoaaRMem
/- Layer 3 (radix): the place of a key's next byte among a node's kids. -/
namespace Go.Proofs.Ytcdfbbjakkmmoaa
open Go.RowKit
set_option linter.unusedVariables false
variable {R : Rg} {O : Nat → Prop}

def cmpI (x y : Int) : Int := if x < y then -1 else if y < x then 1 else 0

theorem cmpByte_calls (x y : Int) (w : World) : Calls Try.prog 67 #[.int .u8 x, .int .u8 y] w fun e w' => e = .returned (.int .i64 (cmpI x y)) ∧ w' = w := by
  by_cases h1 : x < y
  · have e : cmpI x y = -1 := by unfold cmpI; rw [if_pos h1]
    rw [e]
    clear e
    go_enter Try.func67, Try.ntmps67
    go_wp2_with (go_at_call 75; go_in)
    go_ret
    exact ⟨rfl, rfl⟩
  by_cases h2 : y < x
  · have e : cmpI x y = 1 := by unfold cmpI; rw [if_neg h1, if_pos h2]
    rw [e]
    clear e
    go_enter Try.func67, Try.ntmps67
    go_wp2_with (go_at_call 75; go_in)
    go_ret
    exact ⟨rfl, rfl⟩
  · have e : cmpI x y = 0 := by unfold cmpI; rw [if_neg h1, if_neg h2]
    rw [e]
    clear e
    go_enter Try.func67, Try.ntmps67
    go_wp2_with (go_at_call 75; go_in)
    go_ret
    exact ⟨rfl, rfl⟩

theorem byte_get (t : Tr) (n : Nat) (h : n < t.p.size) : t.byte n = t.p[n] := by
  unfold Tr.byte Tr.path
  rw [List.getD_eq_getElem?_getD, List.getElem?_eq_getElem (by simpa using h)]
  rfl

theorem towardK_calls (t : Tr) (w : World) (h : TAt R w t) (c : Addr) (n : Nat) (hc : w.cell? c = some (.int .i64 n)) (hn : n < t.p.size) (b : Int) :
    Calls Try.prog 66 #[.pointer (some ⟨t.a, 0, none⟩), .int .u8 b, .pointer (some c)] w fun e w' => e = .returned (.int .i64 (cmpI (t.byte n).toNat b)) ∧ ∃ m, w' = w.drewN m := by
  obtain ⟨ao, cap, c0, -, -, -, -, -⟩ := h.cells
  have hp := h.psz'
  rw [byte_get t n hn]
  clear h
  go_enter Try.func66, Try.ntmps66
  go_wp2
  go_quiet ((go_at_call 67; exact Calls.quiet_of_same (cmpByte_calls _ _ _)))
  go_wp2
  go_ret
  exact ⟨rfl, _, rfl⟩

def thereB (ks : List Tr) (n : Nat) (b : UInt8) : Bool := match ks[posn ks n b]? with
  | some t => t.byte n == b
  | none => false

theorem u8_lt_int {a b : UInt8} : (a.toNat : Int) < (b.toNat : Int) ↔ a < b := by rw [UInt8.lt_iff_toNat_lt]; omega
theorem cmpI_neg {a b : UInt8} : cmpI a.toNat b.toNat < 0 ↔ a < b := by
  rw [← u8_lt_int]
  unfold cmpI
  split
  · simp [*]
  · split <;> simp <;> omega
theorem cmpI_zero {a b : UInt8} : cmpI a.toNat b.toNat = 0 ↔ a = b := by
  have : a = b ↔ a.toNat = b.toNat := UInt8.toNat_inj.symm
  rw [this]
  unfold cmpI
  split
  · simp; omega
  · split <;> simp <;> omega

theorem lt_of_sorted {ks : List Tr} {n : Nat} (h : (ks.map (Tr.byte n)).Pairwise (· < ·)) {i j : Nat} (hij : i < j) (hj : j < ks.length) : ks[i].byte n < ks[j].byte n := by
  have := List.pairwise_iff_getElem.1 h i j (by simp; omega) (by simpa using hj) hij
  simpa using this

set_option maxRecDepth 100000 in
set_option maxHeartbeats 800000 in
theorem search_calls (ks : List Tr) (ao : Option Addr) (cap : Nat) (n : Nat) (b : UInt8) (c : Addr) (w : World) (hk : KidsAt R w ao ks) (hl : ks.length ≤ 256) (ht : ∀ t ∈ ks, TAt R w t) (hn : ∀ t ∈ ks, n < t.p.size)
    (hc : w.cell? c = some (.int .i64 n)) (hs : (ks.map (Tr.byte n)).Pairwise (· < ·)) :
    Calls Try.prog 65 #[.slice ao ks.length cap, .int .u8 (b.toNat : Int), .func (.func 66) #[] #[.pointer (some c)]] w
      fun e w' => e = .returned (.tuple #[.int .i64 (posn ks n b : Int), .bool (thereB ks n b)]) ∧ ∃ m, w' = w.drewN m := by
  have HS : Hid ((ks.map (Tr.byte n)).Pairwise (· < ·)) := hs
  clear hs
  go_enter Try.func65, Try.ntmps65
  go_wp2
  go_loopw [9, 10] (fun x y wr => ∃ i j : Nat, x = .int .i64 i ∧ y = .int .i64 j ∧ i ≤ j ∧ j ≤ ks.length ∧ Hid (∀ q (hq : q < ks.length), q < i → ks[q].byte n < b) ∧ Hid (∀ q (hq : q < ks.length), j ≤ q → b ≤ ks[q].byte n) ∧ Hid (∃ m, wr = w.drewN m)) (fun x y _ => (intOf y).toNat - (intOf x).toNat)
  case atStart => exact ⟨0, ks.length, rfl, rfl, Nat.zero_le _, Nat.le_refl _, fun q hq h => by omega, fun q hq h => by omega, ⟨0, rfl⟩⟩
  case round =>
    obtain ⟨i, j, rfl, rfl, hij, hj, H1, H2, HW⟩ := hrel
    by_cases hlt : i < j
    · have hh : (i + j) / 2 < ks.length := by omega
      obtain ⟨bb, off, rfl, h0, -⟩ := hk _ hh
      have h1 : wr.cell? ⟨bb, off + (i + j) / 2, none⟩ = some (.pointer (some ⟨ks[(i + j) / 2].a, 0, none⟩)) := by obtain ⟨m, rfl⟩ := HW.out; simpa using h0
      have hT : TAt R wr ks[(i + j) / 2] := by obtain ⟨m, rfl⟩ := HW.out; exact (ht _ (List.getElem_mem hh)).keep ⟨rfl, rfl, rfl, Nat.le_refl _, fun _ _ => rfl⟩
      have hcw : wr.cell? c = some (.int .i64 n) := by obtain ⟨m, rfl⟩ := HW.out; simpa using hc
      have HC := towardK_calls _ wr hT c n hcw (hn _ (List.getElem_mem hh)) b.toNat
      clear hT h0 hcw ht hn hk hc
      by_cases hcmp : ks[(i + j) / 2].byte n < b
      · have hneg : cmpI (ks[(i + j) / 2].byte n).toNat b.toNat < 0 := cmpI_neg.2 hcmp
        have HCM : Hid (ks[(i + j) / 2].byte n < b) := hcmp
        clear hcmp
        go_wp2_with fail
        refine HC.mono ?_
        clear HC
        rintro e w1 ⟨rfl, hw1⟩
        have HW1 : Hid (∃ m, w1 = w.drewN m) := by obtain ⟨m, rfl⟩ := HW.out; obtain ⟨m', rfl⟩ := hw1; exact ⟨m + m', by rw [World.drewN_drewN]⟩
        clear hw1 h1
        revert hneg
        generalize cmpI (ks[(i + j) / 2].byte n).toNat b.toNat = z
        intro hneg
        go_wp2
        go_roundw
        case rel => exact ⟨(i + j) / 2 + 1, j, by go_num, rfl, by omega, hj, fun q hq h => by
          rcases Nat.lt_or_ge q ((i + j) / 2) with hq2 | hq2
          · exact UInt8.lt_trans (lt_of_sorted HS.out hq2 hh) HCM.out
          · have : q = (i + j) / 2 := by omega
            subst this; exact HCM.out, H2, HW1⟩
        case measure => simp [intOf]; omega
      · have hneg : ¬ cmpI (ks[(i + j) / 2].byte n).toNat b.toNat < 0 := fun h => hcmp (cmpI_neg.1 h)
        have HCM : Hid (b ≤ ks[(i + j) / 2].byte n) := UInt8.not_lt.1 hcmp
        clear hcmp
        go_wp2_with fail
        refine HC.mono ?_
        clear HC
        rintro e w1 ⟨rfl, hw1⟩
        have HW1 : Hid (∃ m, w1 = w.drewN m) := by obtain ⟨m, rfl⟩ := HW.out; obtain ⟨m', rfl⟩ := hw1; exact ⟨m + m', by rw [World.drewN_drewN]⟩
        clear hw1 h1
        revert hneg
        generalize cmpI (ks[(i + j) / 2].byte n).toNat b.toNat = z
        intro hneg
        go_wp2
        go_roundw
        case rel => exact ⟨i, (i + j) / 2, rfl, by go_num, by omega, by omega, H1, fun q hq h => by
          rcases Nat.lt_or_ge ((i + j) / 2) q with hq2 | hq2
          · exact UInt8.le_of_lt (UInt8.lt_of_le_of_lt HCM.out (lt_of_sorted HS.out hq2 hq))
          · have : q = (i + j) / 2 := by omega
            subst this; exact HCM.out, HW1⟩
        case measure => simp [intOf]; omega
    · have hij' : i = j := by omega
      subst hij'
      have HP : Hid (posn ks n b = i) := posn_eq (by omega) (fun q hq h => H1.out q hq h) (fun h => H2.out i h (Nat.le_refl _))
      by_cases hin : i < ks.length
      · have hd : decide ((i : Int) < (ks.length : Int)) = true := by simpa using hin
        obtain ⟨bb, off, rfl, h0, -⟩ := hk _ hin
        have h1 : wr.cell? ⟨bb, off + i, none⟩ = some (.pointer (some ⟨ks[i].a, 0, none⟩)) := by obtain ⟨m, rfl⟩ := HW.out; simpa using h0
        have hT : TAt R wr ks[i] := by obtain ⟨m, rfl⟩ := HW.out; exact (ht _ (List.getElem_mem hin)).keep ⟨rfl, rfl, rfl, Nat.le_refl _, fun _ _ => rfl⟩
        have hcw : wr.cell? c = some (.int .i64 n) := by obtain ⟨m, rfl⟩ := HW.out; simpa using hc
        have HC := towardK_calls _ wr hT c n hcw (hn _ (List.getElem_mem hin)) b.toNat
        have HTH : Hid (thereB ks n b = (cmpI (ks[i].byte n).toNat b.toNat == 0)) := by
          show thereB ks n b = _
          unfold thereB
          rw [HP.out, List.getElem?_eq_getElem hin]
          rw [Bool.eq_iff_iff]; simp [cmpI_zero]
        clear hT h0 hcw ht hn hk hc
        go_wp2_with fail
        refine HC.mono ?_
        clear HC
        rintro e w1 ⟨rfl, hw1⟩
        have HW1 : Hid (∃ m, w1 = w.drewN m) := by obtain ⟨m, rfl⟩ := HW.out; obtain ⟨m', rfl⟩ := hw1; exact ⟨m + m', by rw [World.drewN_drewN]⟩
        clear hw1 h1
        revert HTH
        generalize cmpI (ks[i].byte n).toNat b.toNat = z
        intro HTH
        go_wp2
        go_ret2
        exact ⟨by rw [HP.out, HTH.out]; rfl, HW1.out⟩
      · have hd : decide ((i : Int) < (ks.length : Int)) = false := by simpa using hin
        have HTH : Hid (thereB ks n b = false) := by
          show thereB ks n b = _
          unfold thereB
          rw [HP.out, List.getElem?_eq_none (by omega)]
        clear ht hn hk hc
        go_wp2
        go_ret2
        exact ⟨by rw [HP.out, HTH.out]; rfl, HW.out⟩
end Go.Proofs.Ytcdfbbjakkmmoaa

/- Layer 3 (radix): toward. -/
namespace Go.Proofs.Ytcdfbbjakkmmoaa
open Go.RowKit
set_option linter.unusedVariables false
variable {R : Rg} {O : Nat → Prop}

theorem toward_end (t : Tr) (k : ByteArray) (w : World) (h : TAt R w t) (hk : k.size = t.p.size) :
    Calls Try.prog 54 #[.pointer (some ⟨t.a, 0, none⟩), .string k] w fun e w' => e = .returned (.tuple #[.int .i64 0, .bool false]) ∧ Below w.heap.size w w' := by
  obtain ⟨ao, cap, c0, -, -, -, -, -⟩ := h.cells
  have hp := h.psz'
  have ha := h.lt
  clear h
  go_enter Try.func54, Try.ntmps54
  go_wp2
  go_ret2
  exact ⟨rfl, by first | exact (Below.refl _ _).alloc (Nat.le_refl _) _ | exact ((Below.refl _ _).alloc (Nat.le_refl _) _).setCell (Nat.le_refl _) _⟩

set_option maxRecDepth 100000 in
theorem toward_at (t : Tr) (k : ByteArray) (w : World) (h : TAt R w t) (hw : WF t) (hk : t.p.size < k.size) (hks : k.size ≤ 140737488351296) :
    Calls Try.prog 54 #[.pointer (some ⟨t.a, 0, none⟩), .string k] w fun e w' =>
      e = .returned (.tuple #[.int .i64 (posn t.ks t.p.size k[t.p.size] : Int), .bool (thereB t.ks t.p.size k[t.p.size])]) ∧ Below w.heap.size w w' := by
  have hmf : ∀ (fn : Fn) (first cap : Array Value) (w : World), (Instr.makeFunc fn first cap).run Try.prog w = .ok (.func fn first cap) w := fun _ _ _ _ => rfl
  obtain ⟨ao, cap, c0, -, c2, -, hkids, -⟩ := h.cells
  have hp := h.psz'
  have ha := h.lt
  have hsub := h.sub'
  have hne : ¬ (k.size : Int) = (t.p.size : Int) := by omega
  have hneb : ((k.size : Int) == (t.p.size : Int)) = false := by simpa using hne
  -- the world behind the box of 'beyond'
  obtain ⟨w1, HW1⟩ : ∃ w1, Hid (w1 = w.alloc (.cells #[.int .i64 (t.p.size : Int)] 3)) := ⟨_, rfl⟩
  have hb1 : Below w.heap.size w w1 := by rw [HW1.out]; exact (Below.refl _ _).alloc (Nat.le_refl _) _
  have hc1 : w1.cell? ⟨w.heap.size, 0, none⟩ = some (.int .i64 (t.p.size : Int)) := by rw [HW1.out, World.cell?_alloc_mark]; rfl
  have hbd : ∀ m, Below w.heap.size w (w1.drewN m) := fun m => ⟨hb1.os, hb1.tape, hb1.output, hb1.size, hb1.block⟩
  have HS := fun m => search_calls t.ks ao cap t.p.size k[t.p.size] ⟨w.heap.size, 0, none⟩ (w1.drewN m) (hkids.below (hbd m)) hw.few (fun c hc => (hsub c hc).keep (hbd m)) (fun c hc => (hw.ext' c hc).2) hc1 hw.ord'
  have c2' : w1.cell? ⟨t.a, 2, none⟩ = some (.slice ao t.ks.length cap) := by rw [hb1.cell (by exact ha)]; exact c2
  have HB1 : Hid (∀ m, Below w.heap.size w (w1.drewN m)) := hbd
  clear h hw hkids hsub hb1 c2 hbd
  go_enter Try.func54, Try.ntmps54
  go_wp2
  rw [← HW1.out]
  go_quiet ((go_at_call 65; exact Calls.quiet_of (HS _)))
  go_wp2
  go_ret2
  exact ⟨rfl, HB1.out _⟩
end Go.Proofs.Ytcdfbbjakkmmoaa
