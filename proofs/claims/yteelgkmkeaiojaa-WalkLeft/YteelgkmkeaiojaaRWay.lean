import Derived.Test.YteelgkmkeaiojaaRMem
/- Layer 3 (radix): the place of a key's next byte among a node's kids. -/
namespace Go.Proofs.Yteelgkmkeaiojaa
open Go.RowKit
set_option linter.unusedVariables false
variable {R : Nat → Prop}

def cmpI (x y : Int) : Int := if x < y then -1 else if y < x then 1 else 0

theorem cmpByte_calls (x y : Int) (w : World) : Calls Try.prog 74 #[.int .u8 x, .int .u8 y] w fun e w' => e = .returned (.int .i64 (cmpI x y)) ∧ w' = w := by
  by_cases h1 : x < y
  · have e : cmpI x y = -1 := by unfold cmpI; rw [if_pos h1]
    rw [e]
    clear e
    go_enter Try.func74, Try.ntmps74
    go_wp2_with (go_at_call 83; go_in)
    go_ret
    exact ⟨rfl, rfl⟩
  by_cases h2 : y < x
  · have e : cmpI x y = 1 := by unfold cmpI; rw [if_neg h1, if_pos h2]
    rw [e]
    clear e
    go_enter Try.func74, Try.ntmps74
    go_wp2_with (go_at_call 83; go_in)
    go_ret
    exact ⟨rfl, rfl⟩
  · have e : cmpI x y = 0 := by unfold cmpI; rw [if_neg h1, if_neg h2]
    rw [e]
    clear e
    go_enter Try.func74, Try.ntmps74
    go_wp2_with (go_at_call 83; go_in)
    go_ret
    exact ⟨rfl, rfl⟩

theorem byte_get (t : Tr) (n : Nat) (h : n < t.p.size) : t.byte n = t.p[n] := by
  unfold Tr.byte Tr.path
  rw [List.getD_eq_getElem?_getD, List.getElem?_eq_getElem (by simpa using h)]
  rfl

theorem towardK_calls (t : Tr) (w : World) (h : TAt R w t) (c : Addr) (n : Nat) (hc : w.cell? c = some (.int .i64 n)) (hn : n < t.p.size) (b : Int) :
    Calls Try.prog 73 #[.pointer (some ⟨t.a, 0, none⟩), .int .u8 b, .pointer (some c)] w fun e w' => e = .returned (.int .i64 (cmpI (t.byte n).toNat b)) ∧ ∃ m, w' = w.drewN m := by
  obtain ⟨ao, cap, c0, -, -, -, -, -⟩ := h.cells
  have hp := h.psz'
  rw [byte_get t n hn]
  clear h
  go_enter Try.func73, Try.ntmps73
  go_wp2
  go_quiet ((go_at_call 74; exact Calls.quiet_of_same (cmpByte_calls _ _ _)))
  go_wp2
  go_ret
  exact ⟨rfl, _, rfl⟩

def thereB (ks : List Tr) (n : Nat) (b : UInt8) : Bool := match ks[posn ks n b]? with
  | some t => t.byte n == b
  | none => false

theorem u8_lt_int {a b : UInt8} : (a.toNat : Int) < (b.toNat : Int) ↔ a < b := by rw [UInt8.lt_iff_toNat_lt]; omega
theorem cmpI_neg {a b : UInt8} : cmpI a.toNat b.toNat < 0 ↔ a < b := by
  rw [← u8_lt_int]
  unfold cmpI
  split
  · simp [*]
  · split <;> simp <;> omega
theorem cmpI_zero {a b : UInt8} : cmpI a.toNat b.toNat = 0 ↔ a = b := by
  have : a = b ↔ a.toNat = b.toNat := UInt8.toNat_inj.symm
  rw [this]
  unfold cmpI
  split
  · simp; omega
  · split <;> simp <;> omega

theorem lt_of_sorted {ks : List Tr} {n : Nat} (h : (ks.map (Tr.byte n)).Pairwise (· < ·)) {i j : Nat} (hij : i < j) (hj : j < ks.length) : ks[i].byte n < ks[j].byte n := by
  have := List.pairwise_iff_getElem.1 h i j (by simp; omega) (by simpa using hj) hij
  simpa using this

set_option maxRecDepth 100000 in
set_option maxHeartbeats 800000 in
theorem search_calls (ks : List Tr) (ao : Option Addr) (cap : Nat) (n : Nat) (b : UInt8) (c : Addr) (w : World) (hk : KidsAt R w ao ks) (hl : ks.length ≤ 256) (ht : ∀ t ∈ ks, TAt R w t) (hn : ∀ t ∈ ks, n < t.p.size)
    (hc : w.cell? c = some (.int .i64 n)) (hs : (ks.map (Tr.byte n)).Pairwise (· < ·)) :
    Calls Try.prog 72 #[.slice ao ks.length cap, .int .u8 (b.toNat : Int), .func (.func 73) #[] #[.pointer (some c)]] w
      fun e w' => e = .returned (.tuple #[.int .i64 (posn ks n b : Int), .bool (thereB ks n b)]) ∧ ∃ m, w' = w.drewN m := by
  have HS : Hid ((ks.map (Tr.byte n)).Pairwise (· < ·)) := hs
  clear hs
  go_enter Try.func72, Try.ntmps72
  go_wp2
  go_loopw [9, 10] (fun x y wr => ∃ i j : Nat, x = .int .i64 i ∧ y = .int .i64 j ∧ i ≤ j ∧ j ≤ ks.length ∧ Hid (∀ q (hq : q < ks.length), q < i → ks[q].byte n < b) ∧ Hid (∀ q (hq : q < ks.length), j ≤ q → b ≤ ks[q].byte n) ∧ Hid (∃ m, wr = w.drewN m)) (fun x y _ => (intOf y).toNat - (intOf x).toNat)
  case atStart => exact ⟨0, ks.length, rfl, rfl, Nat.zero_le _, Nat.le_refl _, fun q hq h => by omega, fun q hq h => by omega, ⟨0, rfl⟩⟩
  case round =>
    obtain ⟨i, j, rfl, rfl, hij, hj, H1, H2, HW⟩ := hrel
    by_cases hlt : i < j
    · have hh : (i + j) / 2 < ks.length := by omega
      obtain ⟨bb, off, rfl, h0, -⟩ := hk _ hh
      have h1 : wr.cell? ⟨bb, off + (i + j) / 2, none⟩ = some (.pointer (some ⟨ks[(i + j) / 2].a, 0, none⟩)) := by obtain ⟨m, rfl⟩ := HW.out; simpa using h0
      have hT : TAt R wr ks[(i + j) / 2] := by obtain ⟨m, rfl⟩ := HW.out; exact (ht _ (List.getElem_mem hh)).keep ⟨rfl, rfl, rfl, Nat.le_refl _, fun _ _ => rfl⟩
      have hcw : wr.cell? c = some (.int .i64 n) := by obtain ⟨m, rfl⟩ := HW.out; simpa using hc
      have HC := towardK_calls _ wr hT c n hcw (hn _ (List.getElem_mem hh)) b.toNat
      clear hT h0 hcw ht hn hk hc
      by_cases hcmp : ks[(i + j) / 2].byte n < b
      · have hneg : cmpI (ks[(i + j) / 2].byte n).toNat b.toNat < 0 := cmpI_neg.2 hcmp
        have HCM : Hid (ks[(i + j) / 2].byte n < b) := hcmp
        clear hcmp
        go_wp2_with fail
        refine HC.mono ?_
        clear HC
        rintro e w1 ⟨rfl, hw1⟩
        have HW1 : Hid (∃ m, w1 = w.drewN m) := by obtain ⟨m, rfl⟩ := HW.out; obtain ⟨m', rfl⟩ := hw1; exact ⟨m + m', by rw [World.drewN_drewN]⟩
        clear hw1 h1
        revert hneg
        generalize cmpI (ks[(i + j) / 2].byte n).toNat b.toNat = z
        intro hneg
        go_wp2
        go_roundw
        case rel => exact ⟨(i + j) / 2 + 1, j, by go_num, rfl, by omega, hj, fun q hq h => by
          rcases Nat.lt_or_ge q ((i + j) / 2) with hq2 | hq2
          · exact UInt8.lt_trans (lt_of_sorted HS.out hq2 hh) HCM.out
          · have : q = (i + j) / 2 := by omega
            subst this; exact HCM.out, H2, HW1⟩
        case measure => simp [intOf]; omega
      · have hneg : ¬ cmpI (ks[(i + j) / 2].byte n).toNat b.toNat < 0 := fun h => hcmp (cmpI_neg.1 h)
        have HCM : Hid (b ≤ ks[(i + j) / 2].byte n) := UInt8.not_lt.1 hcmp
        clear hcmp
        go_wp2_with fail
        refine HC.mono ?_
        clear HC
        rintro e w1 ⟨rfl, hw1⟩
        have HW1 : Hid (∃ m, w1 = w.drewN m) := by obtain ⟨m, rfl⟩ := HW.out; obtain ⟨m', rfl⟩ := hw1; exact ⟨m + m', by rw [World.drewN_drewN]⟩
        clear hw1 h1
        revert hneg
        generalize cmpI (ks[(i + j) / 2].byte n).toNat b.toNat = z
        intro hneg
        go_wp2
        go_roundw
        case rel => exact ⟨i, (i + j) / 2, rfl, by go_num, by omega, by omega, H1, fun q hq h => by
          rcases Nat.lt_or_ge ((i + j) / 2) q with hq2 | hq2
          · exact UInt8.le_of_lt (UInt8.lt_of_le_of_lt HCM.out (lt_of_sorted HS.out hq2 hq))
          · have : q = (i + j) / 2 := by omega
            subst this; exact HCM.out, HW1⟩
        case measure => simp [intOf]; omega
    · have hij' : i = j := by omega
      subst hij'
      have HP : Hid (posn ks n b = i) := posn_eq (by omega) (fun q hq h => H1.out q hq h) (fun h => H2.out i h (Nat.le_refl _))
      by_cases hin : i < ks.length
      · have hd : decide ((i : Int) < (ks.length : Int)) = true := by simpa using hin
        obtain ⟨bb, off, rfl, h0, -⟩ := hk _ hin
        have h1 : wr.cell? ⟨bb, off + i, none⟩ = some (.pointer (some ⟨ks[i].a, 0, none⟩)) := by obtain ⟨m, rfl⟩ := HW.out; simpa using h0
        have hT : TAt R wr ks[i] := by obtain ⟨m, rfl⟩ := HW.out; exact (ht _ (List.getElem_mem hin)).keep ⟨rfl, rfl, rfl, Nat.le_refl _, fun _ _ => rfl⟩
        have hcw : wr.cell? c = some (.int .i64 n) := by obtain ⟨m, rfl⟩ := HW.out; simpa using hc
        have HC := towardK_calls _ wr hT c n hcw (hn _ (List.getElem_mem hin)) b.toNat
        have HTH : Hid (thereB ks n b = (cmpI (ks[i].byte n).toNat b.toNat == 0)) := by
          show thereB ks n b = _
          unfold thereB
          rw [HP.out, List.getElem?_eq_getElem hin]
          rw [Bool.eq_iff_iff]; simp [cmpI_zero]
        clear hT h0 hcw ht hn hk hc
        go_wp2_with fail
        refine HC.mono ?_
        clear HC
        rintro e w1 ⟨rfl, hw1⟩
        have HW1 : Hid (∃ m, w1 = w.drewN m) := by obtain ⟨m, rfl⟩ := HW.out; obtain ⟨m', rfl⟩ := hw1; exact ⟨m + m', by rw [World.drewN_drewN]⟩
        clear hw1 h1
        revert HTH
        generalize cmpI (ks[i].byte n).toNat b.toNat = z
        intro HTH
        go_wp2
        go_ret2
        exact ⟨by rw [HP.out, HTH.out]; rfl, HW1.out⟩
      · have hd : decide ((i : Int) < (ks.length : Int)) = false := by simpa using hin
        have HTH : Hid (thereB ks n b = false) := by
          show thereB ks n b = _
          unfold thereB
          rw [HP.out, List.getElem?_eq_none (by omega)]
        clear ht hn hk hc
        go_wp2
        go_ret2
        exact ⟨by rw [HP.out, HTH.out]; rfl, HW.out⟩
end Go.Proofs.Yteelgkmkeaiojaa

/- Layer 3 (radix): toward. -/
namespace Go.Proofs.Yteelgkmkeaiojaa
open Go.RowKit
set_option linter.unusedVariables false
variable {R : Nat → Prop}

theorem toward_end (t : Tr) (k : ByteArray) (w : World) (h : TAt R w t) (hk : k.size = t.p.size) :
    Calls Try.prog 63 #[.pointer (some ⟨t.a, 0, none⟩), .string k] w fun e w' => e = .returned (.tuple #[.int .i64 0, .bool false]) ∧ Below w.heap.size w w' := by
  obtain ⟨ao, cap, c0, -, -, -, -, -⟩ := h.cells
  have hp := h.psz'
  have ha := h.lt
  clear h
  go_enter Try.func63, Try.ntmps63
  go_wp2
  go_ret2
  exact ⟨rfl, by first | exact (Below.refl _ _).alloc (Nat.le_refl _) _ | exact ((Below.refl _ _).alloc (Nat.le_refl _) _).setCell (Nat.le_refl _) _⟩

set_option maxRecDepth 100000 in
theorem toward_at (t : Tr) (k : ByteArray) (w : World) (h : TAt R w t) (hw : WF t) (hk : t.p.size < k.size) (hks : k.size ≤ 140737488351232) :
    Calls Try.prog 63 #[.pointer (some ⟨t.a, 0, none⟩), .string k] w fun e w' =>
      e = .returned (.tuple #[.int .i64 (posn t.ks t.p.size k[t.p.size] : Int), .bool (thereB t.ks t.p.size k[t.p.size])]) ∧ Below w.heap.size w w' := by
  have hmf : ∀ (fn : Fn) (first cap : Array Value) (w : World), (Instr.makeFunc fn first cap).run Try.prog w = .ok (.func fn first cap) w := fun _ _ _ _ => rfl
  obtain ⟨ao, cap, c0, -, c2, -, hkids, -⟩ := h.cells
  have hp := h.psz'
  have ha := h.lt
  have hsub := h.sub'
  have hne : ¬ (k.size : Int) = (t.p.size : Int) := by omega
  have hneb : ((k.size : Int) == (t.p.size : Int)) = false := by simpa using hne
  -- the world behind the box of 'beyond'
  obtain ⟨w1, HW1⟩ : ∃ w1, Hid (w1 = w.alloc (.cells #[.int .i64 (t.p.size : Int)] 3)) := ⟨_, rfl⟩
  have hb1 : Below w.heap.size w w1 := by rw [HW1.out]; exact (Below.refl _ _).alloc (Nat.le_refl _) _
  have hc1 : w1.cell? ⟨w.heap.size, 0, none⟩ = some (.int .i64 (t.p.size : Int)) := by rw [HW1.out, World.cell?_alloc_mark]; rfl
  have hbd : ∀ m, Below w.heap.size w (w1.drewN m) := fun m => ⟨hb1.os, hb1.tape, hb1.output, hb1.size, hb1.block⟩
  have HS := fun m => search_calls t.ks ao cap t.p.size k[t.p.size] ⟨w.heap.size, 0, none⟩ (w1.drewN m) (hkids.below (hbd m)) hw.few (fun c hc => (hsub c hc).keep (hbd m)) (fun c hc => (hw.ext' c hc).2) hc1 hw.ord'
  have c2' : w1.cell? ⟨t.a, 2, none⟩ = some (.slice ao t.ks.length cap) := by rw [hb1.cell (by exact ha)]; exact c2
  have HB1 : Hid (∀ m, Below w.heap.size w (w1.drewN m)) := hbd
  clear h hw hkids hsub hb1 c2 hbd
  go_enter Try.func63, Try.ntmps63
  go_wp2
  rw [← HW1.out]
  go_quiet ((go_at_call 72; exact Calls.quiet_of (HS _)))
  go_wp2
  go_ret2
  exact ⟨rfl, HB1.out _⟩
end Go.Proofs.Yteelgkmkeaiojaa

/- Layer 3 (radix): HasPrefix, next. -/
namespace Go.Proofs.Yteelgkmkeaiojaa
open Go.RowKit
set_option linter.unusedVariables false
variable {R : Nat → Prop}

theorem extract_take' (s : ByteArray) (k : Nat) : (s.extract 0 k).data.toList = s.data.toList.take k := by
  rw [ByteArray.data_extract]
  simp
theorem extract_drop (s : ByteArray) (k : Nat) : (s.extract k s.size).data.toList = s.data.toList.drop k := by
  rw [ByteArray.data_extract]
  simp
  exact List.take_of_length_le (by simp)

/-- Does s begin with p? -/
def begB (s p : List UInt8) : Bool := p.isPrefixOf s
theorem begB_take (s p : List UInt8) (h : p.length ≤ s.length) : (s.take p.length == p) = begB s p := by
  unfold begB
  rw [Bool.eq_iff_iff, beq_iff_eq, List.isPrefixOf_iff_prefix, List.prefix_iff_eq_take]
  exact ⟨fun e => e.symm, fun e => e.symm⟩
theorem begB_long (s p : List UInt8) (h : ¬ p.length ≤ s.length) : begB s p = false := by
  unfold begB
  rw [Bool.eq_false_iff, ne_eq, List.isPrefixOf_iff_prefix]
  exact fun e => h e.length_le

set_option maxHeartbeats 400000 in
theorem hasPrefixL_calls (s p : ByteArray) (w : World) (hs : s.size ≤ 281474976702464) (hp : p.size ≤ 281474976702464) :
    Calls Try.prog 56 #[.string s, .string p] w fun e w' => e = .returned (.bool (begB s.data.toList p.data.toList)) ∧ w' = w := by
  by_cases h : p.size ≤ s.size
  · have hi : (p.size : Int) ≤ (s.size : Int) := by omega
    have hd : decide ((p.size : Int) ≤ (s.size : Int)) = true := by simpa using h
    go_enter Try.func56, Try.ntmps56
    go_wp2
    go_light
    go_ret
    refine ⟨ret_bool ?_, rfl⟩
    rw [ByteArray.toList_eq, ByteArray.toList_eq, extract_take']
    have := begB_take s.data.toList p.data.toList (by simpa using h)
    simpa using this
  · have hd : decide ((p.size : Int) ≤ (s.size : Int)) = false := by simp; omega
    go_enter Try.func56, Try.ntmps56
    go_wp2
    go_ret
    refine ⟨ret_bool ?_, rfl⟩
    rw [begB_long _ _ (by simpa using h)]

theorem hasPrefix_calls (s p : ByteArray) (w : World) (hs : s.size ≤ 281474976702464) (hp : p.size ≤ 281474976702464) :
    Calls Try.prog 33 #[.string s, .string p] w fun e w' => e = .returned (.bool (begB s.data.toList p.data.toList)) ∧ w' = w := by
  have HH := hasPrefixL_calls s p w hs hp
  clear hs hp
  go_enter Try.func33, Try.ntmps33
  go_wp2_with fail
  refine HH.mono ?_
  clear HH
  rintro e w1 ⟨rfl, rfl⟩
  go_wp2
  go_ret
  exact ⟨rfl, rfl⟩

theorem beg_drop {p c k : List UInt8} (hc : p <+: c) (hk : p <+: k) : begB (k.drop p.length) (c.drop p.length) = begB k c := by
  obtain ⟨c', rfl⟩ := hc
  obtain ⟨k', rfl⟩ := hk
  unfold begB
  rw [Bool.eq_iff_iff, List.isPrefixOf_iff_prefix, List.isPrefixOf_iff_prefix, List.drop_left, List.drop_left, List.prefix_append_right_inj]

def nptr : Option Tr → Option Addr
  | none => none
  | some t => some ⟨t.a, 0, none⟩

theorem nx_end {t : Tr} (h : WF t) {k : List UInt8} (hk : k.length ≤ t.p.size) : nx t k = none := by
  cases hn : nx t k with
  | none => rfl
  | some c =>
    have h1 := nx_mem hn
    have h2 := (h.ext' _ h1.1).2
    have h3 := h1.2.length_le
    rw [path_length] at h3
    omega
theorem getD_key (k : ByteArray) (n : Nat) (h : n < k.size) : k.data.toList.getD n 0 = k[n] := by
  rw [List.getD_eq_getElem?_getD, List.getElem?_eq_getElem (by simpa using h)]
  rfl
theorem there_false {t : Tr} (h : WF t) {k : ByteArray} (hk : t.p.size < k.size) (ht : thereB t.ks t.p.size k[t.p.size] = false) : nx t k.data.toList = none := by
  refine nx_none h ?_
  rw [getD_key k _ hk]
  intro hi hp
  unfold thereB at ht
  rw [List.getElem?_eq_getElem hi] at ht
  have h2 := prefix_getD hp t.p.size (by rw [path_length]; exact (h.ext' _ (List.getElem_mem hi)).2)
  rw [getD_key k _ hk] at h2
  have h3 : t.ks[posn t.ks t.p.size k[t.p.size]].byte t.p.size = k[t.p.size] := h2.symm
  simp [h3] at ht
theorem there_true {t : Tr} {k : ByteArray} (hk : t.p.size < k.size) (ht : thereB t.ks t.p.size k[t.p.size] = true) : ∃ hi : posn t.ks t.p.size k[t.p.size] < t.ks.length, t.ks[posn t.ks t.p.size k[t.p.size]].byte t.p.size = k[t.p.size] := by
  unfold thereB at ht
  rcases Nat.lt_or_ge (posn t.ks t.p.size k[t.p.size]) t.ks.length with hi | hi
  · rw [List.getElem?_eq_getElem hi] at ht
    exact ⟨hi, by simpa using ht⟩
  · rw [List.getElem?_eq_none hi] at ht
    cases ht

set_option maxRecDepth 100000 in
set_option maxHeartbeats 800000 in
theorem next_calls (t : Tr) (k : ByteArray) (w : World) (h : TAt R w t) (hw : WF t) (hp : t.path <+: k.data.toList) (hks : k.size ≤ 140737488351232) :
    Calls Try.prog 60 #[.pointer (some ⟨t.a, 0, none⟩), .string k] w fun e w' => e = .returned (.pointer (nptr (nx t k.data.toList))) ∧ Below w.heap.size w w' := by
  have hnot : ∀ (x : Bool) (w : World), (Op.unary .not (.bool x)).run Try.prog w = .ok (.bool (!x)) w := fun _ _ => rfl
  have hle : t.p.size ≤ k.size := by have := hp.length_le; rw [path_length] at this; simpa using this
  obtain ⟨ao, cap, c0, -, c2, -, hkids, -⟩ := h.cells
  have hpz := h.psz'
  have ha := h.lt
  by_cases he : k.size = t.p.size
  · have HT := toward_end t k w h he
    rw [nx_end hw (by simp; omega)]
    clear h hw hp hkids
    simp only [nptr]
    go_enter Try.func60, Try.ntmps60
    go_wp2_with fail
    refine HT.mono ?_
    clear HT
    rintro e w1 ⟨rfl, hb1⟩
    have c0' : w1.cell? ⟨t.a, 0, none⟩ = some (.string t.p) := by rw [hb1.cell (by exact ha)]; exact c0
    have HB : Hid (Below w.heap.size w w1) := hb1
    clear hb1 c0 c2
    go_wp2
    go_quiet (fail)
    go_wp2
    go_ret
    exact ⟨rfl, ⟨HB.out.os, HB.out.tape, HB.out.output, HB.out.size, HB.out.block⟩⟩
  have hlt : t.p.size < k.size := by omega
  have HT := toward_at t k w h hw hlt hks
  cases hth : thereB t.ks t.p.size k[t.p.size] with
  | false =>
    rw [there_false hw hlt hth]
    rw [hth] at HT
    clear h hw hp hkids hth
    simp only [nptr]
    go_enter Try.func60, Try.ntmps60
    go_wp2_with fail
    refine HT.mono ?_
    clear HT
    rintro e w1 ⟨rfl, hb1⟩
    have c0' : w1.cell? ⟨t.a, 0, none⟩ = some (.string t.p) := by rw [hb1.cell (by exact ha)]; exact c0
    have HB : Hid (Below w.heap.size w w1) := hb1
    clear hb1 c0 c2
    go_wp2
    go_quiet (fail)
    go_wp2
    go_ret
    exact ⟨rfl, ⟨HB.out.os, HB.out.tape, HB.out.output, HB.out.size, HB.out.block⟩⟩
  | true =>
    obtain ⟨hi, hbyte⟩ := there_true hlt hth
    rw [hth] at HT
    have hx := hw.ext' _ (List.getElem_mem hi)
    have hT := h.sub' _ (List.getElem_mem hi)
    have hnx : nx t k.data.toList = if begB k.data.toList t.ks[posn t.ks t.p.size k[t.p.size]].path then some t.ks[posn t.ks t.p.size k[t.p.size]] else none := by
      split
      · rename_i hb
        exact nx_some hw hi (by unfold begB at hb; simpa using hb)
      · rename_i hb
        refine nx_none hw ?_
        rw [getD_key k _ hlt]
        intro _ hq
        exact hb (by unfold begB; simpa using hq)
    rw [hnx]
    have hbd := beg_drop (p := t.path) hx.1 hp
    rw [path_length] at hbd
    have hcp := hT.psz'
    have hsz := hx.2
    obtain ⟨bb, off, rfl, hk0, -⟩ := hkids _ hi
    obtain ⟨-, -, d0, -, -, -, -, -⟩ := hT.cells
    have hda := hT.lt
    have hbl : bb < w.heap.size := World.block_lt_of_cell? w _ hk0
    clear hT h hw hp hkids hth hx hnx hbyte
    revert HT hk0 d0 hda hbd hcp hsz
    revert hi
    generalize posn t.ks t.p.size k[t.p.size] = q
    intro hi
    generalize t.ks[q] = c
    intro HT hbd hcp hsz hk0 d0 hda
    unfold Tr.path at hbd
    rw [← extract_drop, ← extract_drop] at hbd
    have HH := fun W => hasPrefix_calls (k.extract t.p.size k.size) (c.p.extract t.p.size c.p.size) W (by simp [ByteArray.size_extract]; omega) (by simp [ByteArray.size_extract]; omega)
    rw [hbd] at HH
    clear hbd
    cases hb : begB k.data.toList c.p.data.toList with
    | true =>
      rw [hb] at HH
      have hb' : begB k.data.toList c.path = true := hb
      rw [if_pos hb']
      clear hb hb'
      simp only [nptr]
      go_enter Try.func60, Try.ntmps60
      go_wp2_with fail
      refine HT.mono ?_
      clear HT
      rintro e w1 ⟨rfl, hb1⟩
      have c0' : w1.cell? ⟨t.a, 0, none⟩ = some (.string t.p) := by rw [hb1.cell (by exact ha)]; exact c0
      have c2' : w1.cell? ⟨t.a, 2, none⟩ = some (.slice (some ⟨bb, off, none⟩) t.ks.length cap) := by rw [hb1.cell (by exact ha)]; exact c2
      have k0' : w1.cell? ⟨bb, off + q, none⟩ = some (.pointer (some ⟨c.a, 0, none⟩)) := by rw [hb1.cell (by exact hbl)]; exact hk0
      have d0' : w1.cell? ⟨c.a, 0, none⟩ = some (.string c.p) := by rw [hb1.cell (by exact hda)]; exact d0
      have HB : Hid (Below w.heap.size w w1) := hb1
      clear hb1 c0 c2 hk0 d0 hda hbl ha
      go_wp2
      go_quiet ((go_at_call 33; exact Calls.quiet_of_same (HH _)))
      go_wp2
      go_ret
      exact ⟨rfl, ⟨HB.out.os, HB.out.tape, HB.out.output, HB.out.size, HB.out.block⟩⟩
    | false =>
      rw [hb] at HH
      have hb' : ¬ begB k.data.toList c.path = true := by show ¬ begB k.data.toList c.p.data.toList = true; rw [hb]; simp
      rw [if_neg hb']
      clear hb hb'
      simp only [nptr]
      go_enter Try.func60, Try.ntmps60
      go_wp2_with fail
      refine HT.mono ?_
      clear HT
      rintro e w1 ⟨rfl, hb1⟩
      have c0' : w1.cell? ⟨t.a, 0, none⟩ = some (.string t.p) := by rw [hb1.cell (by exact ha)]; exact c0
      have c2' : w1.cell? ⟨t.a, 2, none⟩ = some (.slice (some ⟨bb, off, none⟩) t.ks.length cap) := by rw [hb1.cell (by exact ha)]; exact c2
      have k0' : w1.cell? ⟨bb, off + q, none⟩ = some (.pointer (some ⟨c.a, 0, none⟩)) := by rw [hb1.cell (by exact hbl)]; exact hk0
      have d0' : w1.cell? ⟨c.a, 0, none⟩ = some (.string c.p) := by rw [hb1.cell (by exact hda)]; exact d0
      have HB : Hid (Below w.heap.size w w1) := hb1
      clear hb1 c0 c2 hk0 d0 hda hbl ha
      go_wp2
      go_quiet ((go_at_call 33; exact Calls.quiet_of_same (HH _)))
      go_wp2
      go_ret
      exact ⟨rfl, ⟨HB.out.os, HB.out.tape, HB.out.output, HB.out.size, HB.out.block⟩⟩
end Go.Proofs.Yteelgkmkeaiojaa

/- Layer 3 (radix): along, with whatever closure. -/
namespace Go.Proofs.Yteelgkmkeaiojaa
open Go.RowKit
set_option linter.unusedVariables false
variable {R : Nat → Prop}

theorem along_tat {w : World} {t : Tr} {k : List UInt8} {l : List Tr} (h : Along k t l) (ht : TAt R w t) : ∀ c ∈ l, TAt R w c := by
  induction h with
  | stop h => simpa using ht
  | go h r ih =>
    intro c hc
    rcases List.mem_cons.1 hc with rfl | hc
    · exact ht
    · exact ih (ht.sub' _ (nx_mem h).1) c hc

/-- How much of the key lies beneath the node. -/
def leftOf (k : ByteArray) (n : Value) (w : World) : Nat := match n with
  | .pointer (some a) => match w.cell? a with
    | some (.string s) => k.size + 1 - s.size
    | _ => 0
  | _ => 0
theorem leftOf_at {k : ByteArray} {w : World} {t : Tr} (h : TAt R w t) : leftOf k (.pointer (some ⟨t.a, 0, none⟩)) w = k.size + 1 - t.p.size := by
  obtain ⟨-, -, c0, -, -, -, -, -⟩ := h.cells
  simp [leftOf, c0]

set_option maxRecDepth 100000 in
set_option maxHeartbeats 800000 in
theorem along_calls (fid : Nat) (hcf : ∀ args W, (callFunc fid args).run Try.prog W = .ok (.enter fid args) W) (cv : Value) (t : Tr) (k : ByteArray) (l : List Tr) (I : Nat → World → Prop) (w : World) (hA : Along k.data.toList t l) (hw : WF t) (hp : t.path <+: k.data.toList) (hks : k.size ≤ 140737488351232)
    (h0 : I 0 w) (hI : ∀ i W W', I i W → Below W.heap.size W W' → I i W') (hT : ∀ i W, I i W → TAt R W t)
    (hstep : ∀ i (hi : i < l.length) W, I i W → TAt R W l[i] → Calls Try.prog fid #[.pointer (some ⟨l[i].a, 0, none⟩), cv] W fun e W' => e = .returned (.tuple #[]) ∧ I (i + 1) W') :
    Calls Try.prog 41 #[.pointer (some ⟨t.a, 0, none⟩), .string k, .func (.func fid) #[] #[cv]] w fun e w' => e = .returned (.tuple #[]) ∧ I l.length w' := by
  have hin := hA.inc hw
  have hpre := hA.pre hp
  have hwf := hA.wf hw
  have hst := hA.step
  have htat := fun W (h : TAt R W t) => along_tat hA h
  obtain ⟨r, hr⟩ := hA.head
  have hl0 : 0 < l.length := by rw [hr]; simp
  have hh0 : l[0] = t := by subst hr; rfl
  have H0 : Hid (I 0 w) := h0
  have HI : Hid (∀ i W W', I i W → Below W.heap.size W W' → I i W') := hI
  have HT : Hid (∀ i W, I i W → ∀ c ∈ l, TAt R W c) := fun i W h => htat W (hT i W h)
  have HST : Hid (∀ i (hi : i < l.length), nx l[i] k.data.toList = l[i + 1]?) := hst
  have HIN : Hid ((l.map (·.p.size)).Pairwise (· < ·)) := hin.1
  have HPRE : Hid (∀ c ∈ l, c.path <+: k.data.toList) := hpre
  have HWF : Hid (∀ c ∈ l, WF c) := hwf
  have HS : Hid (∀ i (hi : i < l.length) W, I i W → TAt R W l[i] → Calls Try.prog fid #[.pointer (some ⟨l[i].a, 0, none⟩), cv] W fun e W' => e = .returned (.tuple #[]) ∧ I (i + 1) W') := hstep
  have hh0' : t.a = l[0].a := by rw [hh0]
  rw [hh0']
  clear hin hpre hwf hst htat hr r hh0 hh0' h0 hI hT hA hw hp hstep
  clear t
  go_enter Try.func41, Try.ntmps41
  go_wp2
  go_loopw [0] (fun n wr => ∃ i : Nat, i ≤ l.length ∧ n = .pointer (nptr l[i]?) ∧ Hid (I i wr)) (fun n wr => leftOf k n wr)
  case atStart => exact ⟨0, Nat.zero_le _, by rw [List.getElem?_eq_getElem hl0]; rfl, H0⟩
  case round =>
    obtain ⟨i, hi, rfl, HJ⟩ := hrel
    by_cases hlt : i < l.length
    · rw [List.getElem?_eq_getElem hlt]
      simp only [nptr]
      have hmem := List.getElem_mem hlt
      have HC := HS.out i hlt wr HJ.out (HT.out i wr HJ.out _ hmem)
      have hle : l[i].p.size ≤ k.size := by have := (HPRE.out _ hmem).length_le; rw [path_length] at this; simpa using this
      have HM : Hid (leftOf k (.pointer (some ⟨l[i].a, 0, none⟩)) wr = k.size + 1 - l[i].p.size) := leftOf_at (HT.out i wr HJ.out _ hmem)
      go_wp2_with fail
      refine HC.mono ?_
      clear HC
      rintro e w1 ⟨rfl, hJ1⟩
      have HN := next_calls l[i] k w1 (HT.out _ w1 hJ1 _ hmem) (HWF.out _ hmem) (HPRE.out _ hmem) hks
      rw [HST.out i hlt] at HN
      have HJ1 : Hid (I (i + 1) w1) := hJ1
      clear hJ1 HJ
      go_wp2_with fail
      refine HN.mono ?_
      clear HN
      rintro e w2 ⟨rfl, hb2⟩
      have HJ2 : Hid (I (i + 1) w2) := HI.out _ _ _ HJ1.out hb2
      clear hb2 HJ1
      go_wp2
      go_roundw
      case rel => exact ⟨i + 1, by omega, rfl, HJ2⟩
      case measure =>
        rw [HM.out]
        by_cases h1 : i + 1 < l.length
        · have hlt2 := List.pairwise_iff_getElem.1 HIN.out i (i + 1) (by simpa using hlt) (by simpa using h1) (by omega)
          simp only [List.getElem_map] at hlt2
          rw [List.getElem?_eq_getElem h1]
          simp only [nptr]
          rw [leftOf_at (HT.out _ w2 HJ2.out _ (List.getElem_mem h1))]
          omega
        · rw [List.getElem?_eq_none (by omega)]
          simp only [nptr, leftOf]
          omega
    · have hil : i = l.length := by omega
      subst hil
      rw [List.getElem?_eq_none (Nat.le_refl _)]
      simp only [nptr]
      go_wp2
      go_end0
      exact ⟨rfl, HJ.out⟩
end Go.Proofs.Yteelgkmkeaiojaa

/- Layer 3 (radix): reach, way, valueOf. -/
namespace Go.Proofs.Yteelgkmkeaiojaa
open Go.RowKit
set_option linter.unusedVariables false
variable {R : Nat → Prop}

theorem enters_way (args : Array Value) (W : World) : (callFunc 62 args).run Try.prog W = .ok (.enter 62 args) W := by
  have := Try.func62
  go_simp
theorem enters_reach (args : Array Value) (W : World) : (callFunc 79 args).run Try.prog W = .ok (.enter 79 args) W := by
  have := Try.func79
  go_simp

theorem reachK_calls (u : Option Addr) (b : Nat) (x : Value) (w : World) (hb : w.heap[b]? = some (.cells #[x] 57)) :
    Calls Try.prog 79 #[.pointer u, .pointer (some ⟨b, 0, none⟩)] w fun e w' => e = .returned (.tuple #[]) ∧ w' = w.setCell ⟨b, 0, none⟩ (.pointer u) := by
  have c0 : w.cell? ⟨b, 0, none⟩ = some x := by rw [cell_of_blk hb]; rfl
  have z0 : w.frozen? ⟨b, 0, none⟩ = false := frozen_of_blk hb
  clear hb
  go_enter Try.func79, Try.ntmps79
  go_wp2
  go_end0
  exact ⟨rfl, rfl⟩

/-- What reach holds between two nodes. -/
structure RI (w : World) (l : List Tr) (hl : 0 < l.length) (i : Nat) (W : World) : Prop where
  below : Below w.heap.size w W
  box : W.heap[w.heap.size]? = some (.cells #[.pointer (some ⟨(l[i - 1]?.getD l[0]).a, 0, none⟩)] 57)

set_option maxRecDepth 100000 in
theorem reach_calls (t : Tr) (k : ByteArray) (w : World) (init : List Tr) (c : Tr) (hA : Along k.data.toList t (init ++ [c])) (h : TAt R w t) (hw : WF t) (hp : t.path <+: k.data.toList) (hks : k.size ≤ 140737488351232) :
    Calls Try.prog 68 #[.pointer (some ⟨t.a, 0, none⟩), .string k] w fun e w' => e = .returned (.pointer (some ⟨c.a, 0, none⟩)) ∧ Below w.heap.size w w' := by
  have hmf : ∀ (fn : Fn) (first cap : Array Value) (w : World), (Instr.makeFunc fn first cap).run Try.prog w = .ok (.func fn first cap) w := fun _ _ _ _ => rfl
  have hl : 0 < (init ++ [c]).length := by simp
  have hh0 : (init ++ [c])[0] = t := by obtain ⟨r, hr⟩ := hA.head; simp only [hr]; rfl
  obtain ⟨w1, HW1⟩ : ∃ w1, Hid (w1 = w.alloc (.cells #[.pointer (some ⟨t.a, 0, none⟩)] 57)) := ⟨_, rfl⟩
  have hb1 : Below w.heap.size w w1 := by rw [HW1.out]; exact (Below.refl _ _).alloc (Nat.le_refl _) _
  have hbox : w1.heap[w.heap.size]? = some (.cells #[.pointer (some ⟨t.a, 0, none⟩)] 57) := by rw [HW1.out]; exact heap_alloc_new w _
  have HA := along_calls 79 enters_reach (.pointer (some ⟨w.heap.size, 0, none⟩)) t k (init ++ [c]) (RI w (init ++ [c]) hl) w1 hA hw hp hks
    ⟨hb1, by rw [hbox]; simp [hh0]⟩
    (fun i W W' hi hb => ⟨hi.below.trans (hb.mono hi.below.size), by rw [hb.block _ (lt_of_heap hi.box)]; exact hi.box⟩)
    (fun i W hi => h.keep hi.below)
    (fun i hi W hI _ => (reachK_calls _ _ _ W hI.box).mono (by
      rintro e W' ⟨rfl, rfl⟩
      refine ⟨rfl, hI.below.setCell (Nat.le_refl _) _, ?_⟩
      rw [setCell_blk hI.box]
      simp [List.getElem?_eq_getElem hi]))
  clear hA h hw hp hbox hb1
  go_enter Try.func68, Try.ntmps68
  go_wp2_with fail
  rw [← HW1.out]
  refine HA.mono ?_
  clear HA
  rintro e w2 ⟨rfl, hI⟩
  have c0 : w2.cell? ⟨w.heap.size, 0, none⟩ = some (.pointer (some ⟨c.a, 0, none⟩)) := by rw [cell_of_blk hI.box]; simp
  have HB : Hid (Below w.heap.size w w2) := hI.below
  clear hI
  go_wp2
  go_ret
  exact ⟨rfl, HB.out⟩

/-- The value of k at the last node along it. -/
def valAt (c : Tr) (k : ByteArray) : Option Vl := if c.p.size < k.size then none else c.v

theorem valueOf_calls (t : Tr) (k : ByteArray) (w : World) (init : List Tr) (c : Tr) (hA : Along k.data.toList t (init ++ [c])) (h : TAt R w t) (hw : WF t) (hp : t.path <+: k.data.toList) (hks : k.size ≤ 140737488351232) :
    Calls Try.prog 50 #[.pointer (some ⟨t.a, 0, none⟩), .string k] w fun e w' => e = .returned (.pointer (vptr (valAt c k))) ∧ Below w.heap.size w w' := by
  have HR := reach_calls t k w init c hA h hw hp hks
  have hT := along_tat hA h c (by simp)
  obtain ⟨ao, cap, c0, c1, -, -, -, -⟩ := hT.cells
  have hpz := hT.psz'
  have ha := hT.lt
  clear hA h hw hp hT
  by_cases hlt : c.p.size < k.size
  · have e : valAt c k = none := by unfold valAt; rw [if_pos hlt]
    rw [e]
    clear e
    simp only [vptr]
    go_enter Try.func50, Try.ntmps50
    go_wp2_with fail
    refine HR.mono ?_
    clear HR
    rintro e w1 ⟨rfl, hb1⟩
    have c0' : w1.cell? ⟨c.a, 0, none⟩ = some (.string c.p) := by rw [hb1.cell (by exact ha)]; exact c0
    have HB : Hid (Below w.heap.size w w1) := hb1
    clear hb1 c0 c1
    go_wp2
    go_ret
    exact ⟨rfl, HB.out⟩
  · have e : valAt c k = c.v := by unfold valAt; rw [if_neg hlt]
    rw [e]
    clear e
    go_enter Try.func50, Try.ntmps50
    go_wp2_with fail
    refine HR.mono ?_
    clear HR
    rintro e w1 ⟨rfl, hb1⟩
    have c0' : w1.cell? ⟨c.a, 0, none⟩ = some (.string c.p) := by rw [hb1.cell (by exact ha)]; exact c0
    have c1' : w1.cell? ⟨c.a, 1, none⟩ = some (.pointer (vptr c.v)) := by rw [hb1.cell (by exact ha)]; exact c1
    have HB : Hid (Below w.heap.size w w1) := hb1
    clear hb1 c0 c1
    go_wp2
    go_ret
    exact ⟨rfl, HB.out⟩
end Go.Proofs.Yteelgkmkeaiojaa

/- Layer 3 (radix): way. -/
namespace Go.Proofs.Yteelgkmkeaiojaa
open Go.RowKit
set_option linter.unusedVariables false
variable {R : Nat → Prop}

def nodeP (t : Tr) : Value := .pointer (some ⟨t.a, 0, none⟩)

theorem infoPN : (Try.prog.info? 57).map (fun i => (i.zero, i.size, i.bytes)) = some (some (.pointer none), 1, 8) := by kernel_rfl

theorem wayK_calls (u : Tr) (b B : Nat) (v : Value) (vs : List Value) (w : World) (hb : w.heap[b]? = some (.cells #[v] 69)) (ho : OwnV w B 57 v vs) (hB : b < B) (hBs : B ≤ w.heap.size) (hl : vs.length + 1 ≤ 17592186044416) :
    Calls Try.prog 62 #[nodeP u, .pointer (some ⟨b, 0, none⟩)] w fun e w' => e = .returned (.tuple #[]) ∧ ∃ v', w'.heap[b]? = some (.cells #[v'] 69) ∧ OwnV w' B 57 v' (vs ++ [nodeP u]) ∧ Below b w w' ∧ w.heap.size ≤ w'.heap.size := by
  obtain ⟨ao, cap, rfl⟩ := ho.shape
  have c0 : w.cell? ⟨b, 0, none⟩ = some (.slice ao vs.length cap) := by rw [cell_of_blk hb]; rfl
  have HBX : Hid (w.heap[b]? = some (.cells #[.slice ao vs.length cap] 69)) := hb
  have hlt : ∀ k, (Value.slice ao vs.length cap).ownBlock = some k → B ≤ k := fun k hk => (ho.lt k hk).1
  have HLT : Hid (∀ k, (Value.slice ao vs.length cap).ownBlock = some k → B ≤ k) := hlt
  clear hb hlt
  unfold nodeP
  go_enter Try.func62, Try.ntmps62
  go_wp2_with (at_builtin; refine append_val _ rfl (.tmp 3) (.tmp 5) 69 57 (.pointer none) 8 Try.underlying69 infoPN rfl rfl B _ vs rfl (.pointer (some ⟨u.a, 0, none⟩)) rfl _ rfl (by simp) ho (by omega) (by omega) hBs ?_)
  intro v1 w2 ho2 hg2
  obtain ⟨ao1, cap1, hv1⟩ := ho2.shape
  rw [List.length_append, List.length_singleton] at hv1
  have e1 : w2.heap[b]? = some (.cells #[.slice ao vs.length cap] 69) := (hg2.grown.block b (by omega) (fun e => by have := HLT.out b e.symm; omega)).trans HBX.out
  have d2 : w2.cell? ⟨b, 0, none⟩ = some (.slice ao vs.length cap) := by rw [cell_of_blk e1]; rfl
  have z2 : w2.frozen? ⟨b, 0, none⟩ = false := frozen_of_blk e1
  have HE : Hid (w2.heap[b]? = some (.cells #[.slice ao vs.length cap] 69)) := e1
  have HO : Hid (OwnV w2 B 57 v1 (vs ++ [.pointer (some ⟨u.a, 0, none⟩)])) := ho2
  have HG : Hid (Below b w w2 ∧ w.heap.size ≤ w2.heap.size) := ⟨hg2.toBelow (by omega) (fun k hk => by have := HLT.out k hk; omega), hg2.size⟩
  clear e1 ho2 hg2 ho c0
  revert HO
  subst hv1
  intro HO
  go_wp2
  go_end0
  revert HO
  generalize (Value.slice ao1 (vs.length + 1) cap1) = v1
  intro HO
  have hne : v1.ownBlock ≠ some b := fun e => by have := (HO.out.lt b e).1; omega
  refine ⟨rfl, v1, ?_, ownsRow_setCell_other HO.out hne _, HG.out.1.setCell (Nat.le_refl _) _, by simpa using HG.out.2⟩
  rw [setCell_blk HE.out]; simp

/-- What way holds between two nodes. -/
structure WI (w : World) (l : List Tr) (i : Nat) (W : World) : Prop where
  below : Below w.heap.size w W
  box : ∃ v, W.heap[w.heap.size]? = some (.cells #[v] 69) ∧ OwnV W (w.heap.size + 1) 57 v ((l.take i).map nodeP)

set_option maxRecDepth 100000 in
theorem way_calls (t : Tr) (k : ByteArray) (w : World) (init : List Tr) (c : Tr) (hA : Along k.data.toList t (init ++ [c])) (h : TAt R w t) (hw : WF t) (hp : t.path <+: k.data.toList) (hks : k.size ≤ 140737488351232) (hd : init.length + 1 ≤ 17592186044416) (hR : ∀ b, R b → b ≤ w.heap.size) :
    Calls Try.prog 45 #[.pointer (some ⟨t.a, 0, none⟩), .string k] w fun e w' => ∃ g cap, e = .returned (.tuple #[.slice (some ⟨g, 0, none⟩) init.length cap, .pointer (some ⟨c.a, 0, none⟩)]) ∧ Below w.heap.size w w' ∧ KidsAt R w' (some ⟨g, 0, none⟩) init ∧ g < w'.heap.size := by
  have hmf : ∀ (fn : Fn) (first cap : Array Value) (w : World), (Instr.makeFunc fn first cap).run Try.prog w = .ok (.func fn first cap) w := fun _ _ _ _ => rfl
  obtain ⟨w1, HW1⟩ : ∃ w1, Hid (w1 = w.alloc (.cells #[.slice none 0 0] 69)) := ⟨_, rfl⟩
  have hb1 : Below w.heap.size w w1 := by rw [HW1.out]; exact (Below.refl _ _).alloc (Nat.le_refl _) _
  have hs1 : w1.heap.size = w.heap.size + 1 := by rw [HW1.out]; simp [World.size_alloc]
  have hbox : w1.heap[w.heap.size]? = some (.cells #[.slice none 0 0] 69) := by rw [HW1.out]; exact heap_alloc_new w _
  have HA := along_calls 62 enters_way (.pointer (some ⟨w.heap.size, 0, none⟩)) t k (init ++ [c]) (WI w (init ++ [c])) w1 hA hw hp hks
    ⟨hb1, _, hbox, by simpa using OwnV.nil w1 _ _⟩
    (fun i W W' hi hb => ⟨hi.below.trans (hb.mono hi.below.size), by
      obtain ⟨v, h1, h2⟩ := hi.box
      exact ⟨v, by rw [hb.block _ (lt_of_heap h1)]; exact h1, h2.touched (Touched.ofBelow hb []) (by simp)⟩⟩)
    (fun i W hi => h.keep hi.below)
    (fun i hi W hI _ => by
      obtain ⟨v, h1, h2⟩ := hI.box
      have hlt := lt_of_heap h1
      have hli : (((init ++ [c]).take i).map nodeP).length = i := by simp at hi ⊢; omega
      refine (wayK_calls (init ++ [c])[i] _ (w.heap.size + 1) v _ W h1 h2 (by omega) (by omega) (by rw [hli]; simp at hi; omega)).mono ?_
      rintro e W' ⟨rfl, v', h3, h4, h5, h6⟩
      refine ⟨rfl, hI.below.trans h5, v', h3, ?_⟩
      rw [List.take_succ_eq_append_getElem hi, List.map_append]
      exact h4)
  clear hA h hw hp hbox hb1 hs1
  go_enter Try.func45, Try.ntmps45
  go_wp2_with fail
  rw [← HW1.out]
  refine HA.mono ?_
  clear HA
  rintro e w2 ⟨rfl, hI⟩
  obtain ⟨v, h1, h2⟩ := hI.box
  rw [List.take_length] at h2
  obtain ⟨ao, cap, rfl⟩ := h2.shape
  have hlen : ((init ++ [c]).map nodeP).length = init.length + 1 := by simp
  rw [hlen] at h1 h2
  obtain ⟨g, rfl, hlast⟩ := h2.at init.length (by simp)
  have hlast' : w2.cell? ⟨g, init.length, none⟩ = some (.pointer (some ⟨c.a, 0, none⟩)) := by rw [hlast]; simp [nodeP]
  have c0 : w2.cell? ⟨w.heap.size, 0, none⟩ = some (.slice (some ⟨g, 0, none⟩) (init.length + 1) cap) := by rw [cell_of_blk h1]; rfl
  have hcap : init.length + 1 ≤ cap := by
    rcases h2.2 with ⟨he, _⟩ | ⟨g', cap', cur, he, _, _, hnc, _⟩
    · cases he
    · simp only [Value.slice.injEq] at he
      obtain ⟨_, _, rfl⟩ := he
      simpa using hnc
  have HK : Hid (KidsAt R w2 (some ⟨g, 0, none⟩) init) := by
    intro i hi
    obtain ⟨g', hg', hc'⟩ := h2.at i (by simp; omega)
    simp only [Option.some.injEq, Addr.mk.injEq] at hg'
    obtain ⟨rfl, _, _⟩ := hg'
    refine ⟨_, _, rfl, ?_, fun e => by have h8 := hR _ e; have h9 : w.heap.size + 1 ≤ _ := (h2.lt _ rfl).1; exact absurd (Nat.lt_of_lt_of_le (Nat.lt_succ_self _) h9) (Nat.not_lt.2 h8)⟩
    rw [Nat.zero_add, hc', List.getElem_map, List.getElem_append_left hi]
    rfl
  have HB : Hid (Below w.heap.size w w2) := hI.below
  have hgl : g < w2.heap.size := World.block_lt_of_cell? w2 _ hlast'
  clear hI h1 h2 hlast hlen
  go_wp2
  go_quiet (fail)
  go_wp2
  go_ret2
  exact ⟨g, cap, rfl, ⟨HB.out.os, HB.out.tape, HB.out.output, HB.out.size, HB.out.block⟩, HK.out, hgl⟩
end Go.Proofs.Yteelgkmkeaiojaa
