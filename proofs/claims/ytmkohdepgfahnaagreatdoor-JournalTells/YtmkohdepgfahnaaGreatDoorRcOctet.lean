/- Layer 9 (records): strconv.FormatUint, octet. -/
import Derived.Test.YtmkohdepgfahnaaGreatDoorRcSplitN
import Derived.Test.YtmkohdepgfahnaaGreatDoorShelf
import Derived.Lib.AppendIntMem
namespace Go.Proofs.YtmkohdepgfahnaaGreatDoor
open Go.RowKit Go.Sort
set_option linter.unusedVariables false

/-- The library's variables that are read: the powers of ten and the two errors. -/
def Vs (w : World) : Prop := Lib.TabIs Tryz.prog w "internal/strconv.uint64pow10" .u64 Lib.pow10Tab ∧ (∃ t p, w.var? Tryz.prog "strconv.ErrSyntax" = some #[.iface t p]) ∧ (∃ t p, w.var? Tryz.prog "strconv.ErrRange" = some #[.iface t p])
theorem var_stay {P : Program} {w w' : World} {n : String} {cs : Array Value} (h : w.var? P n = some cs) (hb : Below w.heap.size w w') : w'.var? P n = some cs := by
  unfold World.var? at h ⊢
  cases hg : P.globalNamed n with
  | none => rw [hg] at h; cases h
  | some g =>
    rw [hg] at h
    simp only [Option.bind_some] at h ⊢
    have hlt : g < w.heap.size := by
      rcases Nat.lt_or_ge g w.heap.size with h' | h'
      · exact h'
      · rw [Array.getElem?_eq_none h'] at h; cases h
    rw [hb.block g hlt]
    exact h
theorem Vs.stay {w w' : World} (h : Vs w) (hb : Below w.heap.size w w') : Vs w' := by
  obtain ⟨h1, ⟨t, p, h2⟩, ⟨t', p', h3⟩⟩ := h
  exact ⟨var_stay h1 hb, ⟨t, p, var_stay h2 hb⟩, ⟨t', p', var_stay h3 hb⟩⟩

set_option maxRecDepth 100000 in
set_option maxHeartbeats 1000000 in
theorem intFormatUint_calls (u : Nat) (hu : u ≤ 255) (w : World) (hv : Vs w) :
    Calls Tryz.prog 104 #[.int .u64 u, .int .i64 10] w fun e w' => e = .returned (.string ⟨(Lib.decDigits u).toArray⟩) ∧ Below w.heap.size w w' := by
  by_cases hs : u < 100
  · have q : (u : Int) < 100 := by omega
    go_enter Tryz.func104, Tryz.ntmps104
    go_wp2_with (go_at_call 126; refine (Tryz.internal_strconv_small u hs _).mono ?_; rintro e w' ⟨rfl, rfl⟩)
    go_ret
    exact ⟨rfl, Below.refl _ _⟩
  · have q : ¬ (u : Int) < 100 := by omega
    have hu1 : 1 ≤ u := by omega
    have hu64 : u < 18446744073709551616 := by omega
    have hnd20 : Lib.nDigits u ≤ 20 := by have := Lib.numDigits_eq u hu1 hu64; split at this <;> omega
    have hb3 : Lib.nDigits u ≤ 24 := by omega
    have hal : Tryz.prog.arrayLen 175 = 24 := by kernel_rfl
    have hsl1 : ∀ W, (Instr.sliceAt 175 (.pointer (some ⟨w.heap.size, 0, none⟩)) none (some (.int .i64 (Lib.nDigits u : Int))) none).run Tryz.prog W = .ok (.slice (some ⟨w.heap.size, 0, none⟩) (Lib.nDigits u) 24) W := fun W => by
      rw [run_sliceAt_array_h W 175 ⟨w.heap.size, 0, none⟩ (by simp [Program.arrayLen, Program.elem, Tryz.underlying175]) .i64 (Lib.nDigits u : Int) (by omega) (by rw [hal]; omega)]
      go_simp
    have hH0 := Lib.holds_zero0 w 175 (Lib.nDigits u) (by omega)
    have hfmt := Tryz.internal_strconv_formatBase10 w.heap.size 0 24 u (Array.replicate (Lib.nDigits u) 0) (w.alloc (.cells Lib.zeros24 175)) hH0 (by rw [Array.size_replicate]; exact Lib.lt_pow_nDigits u) hu64 (by rw [Array.size_replicate]; omega)
    rw [Array.size_replicate] at hfmt
    have HH0 := Lib.hid hH0
    have HV : Hid (Vs w) := hv
    clear hH0 hal hv
    go_enter Tryz.func104, Tryz.ntmps104
    go_wp2_with (first
      | (go_at_call 127; refine (Tryz.internal_strconv_numDigits u hu1 hu64 _ (Lib.tabIs_alloc HV.out.1 _)).mono ?_; rintro e w' ⟨rfl, rfl⟩))
    go_at_call 128
    refine hfmt.mono ?_
    rintro e w' ⟨rfl, k, v', dk, rfl, hF⟩
    have hcv : (convert 23 9 (.slice (some ⟨w.heap.size, 0, none⟩) (Lib.nDigits u) 24)).run Tryz.prog ((putRow (fun (b : UInt8) => Value.int .u8 (b.toNat : Int)) (w.alloc (.cells Lib.zeros24 175)) w.heap.size 0 dk).drewN k) = .ok (.string ⟨(Lib.decDigits u).toArray⟩) ((putRow (fun (b : UInt8) => Value.int .u8 (b.toNat : Int)) (w.alloc (.cells Lib.zeros24 175)) w.heap.size 0 dk).drewN k) := by
      have h := run_convert_bytes_back (P := Tryz.prog) ((putRow (fun (b : UInt8) => Value.int .u8 (b.toNat : Int)) (w.alloc (.cells Lib.zeros24 175)) w.heap.size 0 dk).drewN k) 23 9 5 ⟨w.heap.size, 0, none⟩ 24 (Lib.decDigits u) Tryz.underlying23 Tryz.underlying5 Tryz.underlying9 (fun j hj => by
        rw [Lib.row_is_numeral hF j hj, Lib.add_plain, World.cell?_drewN]
        exact cell?_putRow (fun (b : UInt8) => Value.int .u8 (b.toNat : Int)) _ w.heap.size 0 _ dk HH0.out (by rw [hF.size, Array.size_replicate]) j (by rw [hF.size]; rw [Lib.decDigits_length] at hj; exact hj))
      rw [Lib.decDigits_length] at h
      exact h
    obtain ⟨os, eo⟩ := Lib.fin_at w (.cells Lib.zeros24 175) dk k 0
    have HB : Hid (Below w.heap.size w ((putRow (fun (b : UInt8) => Value.int .u8 (b.toNat : Int)) (w.alloc (.cells Lib.zeros24 175)) w.heap.size 0 dk).drewN k)) := by rw [eo]; exact Lib.below_grow _ w (Nat.le_refl _) k os
    clear eo
    go_wp2
    go_ret
    exact ⟨rfl, HB.out⟩
theorem formatUint_calls (u : Nat) (hu : u ≤ 255) (w : World) (hv : Vs w) :
    Calls Tryz.prog 96 #[.int .u64 u, .int .i64 10] w fun e w' => e = .returned (.string ⟨(Lib.decDigits u).toArray⟩) ∧ Below w.heap.size w w' := by
  have HC := intFormatUint_calls u hu w hv
  go_enter Tryz.func96, Tryz.ntmps96
  go_wp2_with fail
  refine HC.mono ?_
  rintro e w1 ⟨rfl, hb⟩
  have HB : Hid (Below w.heap.size w w1) := hb
  clear hb HC
  go_wp2
  go_ret
  exact ⟨rfl, HB.out⟩

/-- What octet answers. -/
def octA (s : ByteArray) : Array Value := match octP s.data.toList with
  | some n => #[.int .u8 n, .bool true]
  | none => #[.int .u8 0, .bool false]
theorem octA_some {s : ByteArray} {n : Nat} (h : octP s.data.toList = some n) : octA s = #[.int .u8 n, .bool true] := by simp [octA, h]
theorem octA_none {s : ByteArray} (h : octP s.data.toList = none) : octA s = #[.int .u8 0, .bool false] := by simp [octA, h]
theorem octP_fail {l : List UInt8} (h : ∀ n, Lib.parseUintB 8 l ≠ .ok n) : octP l = none := by
  unfold octP
  split
  · next m hm => exact absurd hm (h m)
  · rfl
theorem ret_tuple {x y : Array Value} (h : x = y) : Ending.returned (.tuple x) = .returned (.tuple y) := by rw [h]

set_option maxRecDepth 100000 in
set_option maxHeartbeats 1000000 in
theorem octet_calls (s : ByteArray) (w : World) (hs : s.size ≤ 140737488351296) (hv : Vs w) :
    Calls Tryz.prog 88 #[.string s] w fun e w' => e = .returned (.tuple (octA s)) ∧ Below w.heap.size w w' := by
  cases hp : Lib.parseUintB 8 s.data.toList with
  | ok n =>
    obtain ⟨hn, ho⟩ := oct_ok hp
    have HP := Tryz.strconv_ParseUint_10_at8_ok s (by omega) n hp w
    have HP : Hid (Calls Tryz.prog 95 #[.string s, .int .i64 10, .int .i64 8] w fun e w' => e = .returned (.tuple #[.int .u64 n, .nilIface]) ∧ Below w.heap.size w w') := HP.mono fun e w' ⟨h1, h2⟩ => ⟨h1, by
      rcases h2 with rfl | rfl
      · exact Below.refl _ _
      · exact Lib.bytesWorld_below _ _ _⟩
    have HV : Hid (Vs w) := hv
    have qn : (n : Int) ≤ 255 := by omega
    have qm : (n : Int) % 256 = n := by omega
    clear hp hv
    by_cases hd : Lib.decDigits n = s.data.toList
    · have HN : Hid (#[.int .u8 (n : Int), .bool true] = octA s) := (octA_some (by rw [ho, if_pos hd])).symm
      have qs : ((⟨(Lib.decDigits n).toArray⟩ : ByteArray).toList == s.toList) = true := by rw [ByteArray.toList_eq, ByteArray.toList_eq, hd]; exact beq_self_eq_true _
      have qs2 : (Lib.decDigits n == s.toList) = true := by rw [ByteArray.toList_eq, hd]; exact beq_self_eq_true _
      clear hd ho
      go_enter Tryz.func88, Tryz.ntmps88
      go_wp2_with fail
      refine HP.out.mono ?_
      rintro e w1 ⟨rfl, hb1⟩
      have HB1 : Hid (Below w.heap.size w w1) := hb1
      clear hb1 HP
      go_wp2_with fail
      refine (formatUint_calls n hn w1 (HV.out.stay HB1.out)).mono ?_
      rintro e w2 ⟨rfl, hb2⟩
      have HB2 : Hid (Below w.heap.size w w2) := HB1.out.trans (hb2.mono HB1.out.size)
      clear hb2
      go_wp2
      go_ret2
      exact ⟨ret_tuple HN.out, HB2.out⟩
    · have HN : Hid (#[.int .u8 0, .bool false] = octA s) := (octA_none (by rw [ho, if_neg hd])).symm
      have qs : ((⟨(Lib.decDigits n).toArray⟩ : ByteArray).toList == s.toList) = false := by rw [ByteArray.toList_eq, ByteArray.toList_eq]; simpa using hd
      have qs2 : (Lib.decDigits n == s.toList) = false := by rw [ByteArray.toList_eq]; simpa using hd
      clear hd ho
      go_enter Tryz.func88, Tryz.ntmps88
      go_wp2_with fail
      refine HP.out.mono ?_
      rintro e w1 ⟨rfl, hb1⟩
      have HB1 : Hid (Below w.heap.size w w1) := hb1
      clear hb1 HP
      go_wp2_with fail
      refine (formatUint_calls n hn w1 (HV.out.stay HB1.out)).mono ?_
      rintro e w2 ⟨rfl, hb2⟩
      have HB2 : Hid (Below w.heap.size w w2) := HB1.out.trans (hb2.mono HB1.out.size)
      clear hb2
      go_wp2
      go_ret2
      exact ⟨ret_tuple HN.out, HB2.out⟩
  | «syntax» =>
    obtain ⟨_, ⟨te, pe, hv2⟩, _⟩ := hv
    have HP : Hid (Calls Tryz.prog 95 #[.string s, .int .i64 10, .int .i64 8] w fun e w' => ∃ n t p, e = .returned (.tuple #[.int .u64 n, .iface t p]) ∧ Below w.heap.size w w') := (Tryz.strconv_ParseUint_10_at8_syntax_var s (by omega) hp te pe w hv2).mono fun e w' ⟨N, h1, _, _, h2⟩ => ⟨_, _, _, h1, h2⟩
    have HN : Hid (#[.int .u8 0, .bool false] = octA s) := (octA_none (octP_fail fun n => by rw [hp]; simp)).symm
    clear hv2 hp
    go_enter Tryz.func88, Tryz.ntmps88
    go_wp2_with fail
    refine HP.out.mono ?_
    rintro e w1 ⟨n, t, p, rfl, hb1⟩
    have HB1 : Hid (Below w.heap.size w w1) := hb1
    clear hb1 HP
    go_wp2
    go_ret2
    exact ⟨ret_tuple HN.out, HB1.out⟩
  | range =>
    obtain ⟨_, _, ⟨te, pe, hv2⟩⟩ := hv
    have HP : Hid (Calls Tryz.prog 95 #[.string s, .int .i64 10, .int .i64 8] w fun e w' => ∃ n t p, e = .returned (.tuple #[.int .u64 n, .iface t p]) ∧ Below w.heap.size w w') := (Tryz.strconv_ParseUint_10_at8_range_var s (by omega) hp te pe w hv2).mono fun e w' ⟨N, h1, _, _, h2⟩ => ⟨_, _, _, h1, h2⟩
    have HN : Hid (#[.int .u8 0, .bool false] = octA s) := (octA_none (octP_fail fun n => by rw [hp]; simp)).symm
    clear hv2 hp
    go_enter Tryz.func88, Tryz.ntmps88
    go_wp2_with fail
    refine HP.out.mono ?_
    rintro e w1 ⟨n, t, p, rfl, hb1⟩
    have HB1 : Hid (Below w.heap.size w w1) := hb1
    clear hb1 HP
    go_wp2
    go_ret2
    exact ⟨ret_tuple HN.out, HB1.out⟩
end Go.Proofs.YtmkohdepgfahnaaGreatDoor
