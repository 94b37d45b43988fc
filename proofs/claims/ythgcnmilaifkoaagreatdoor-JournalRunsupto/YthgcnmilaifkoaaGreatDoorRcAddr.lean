import Derived.Test.YthgcnmilaifkoaaGreatDoorRcSplit
import Derived.Lib.Bytealg
import Derived.Lib.IndexMore
import Derived.Laws.MakeOwn
import Derived.Lib.MinMax
import Derived.Lib.Walk
import Derived.Lib.Strings
import Derived.Laws.Strings3
import Derived.Deep.LoopGhost
import Derived.Deep.OwnRows
import Derived.Test.YthgcnmilaifkoaaGreatDoorShelf
import Derived.Lib.AppendIntMem
import Derived.Laws.ResultCell
import Derived.Laws.Rows
import Derived.ChangeKeysEq
/- Layer 9 (records): strings.SplitN at a dot and five. -/
namespace Go.Proofs.YthgcnmilaifkoaaGreatDoor
open Go.RowKit
set_option linter.unusedVariables false

set_option maxHeartbeats 1000000 in
set_option maxRecDepth 100000 in
theorem liteIndexByte_calls (s : ByteArray) (w : World) : Calls Tryz.prog 137 #[.string s, .int .u8 46] w fun e w' => e = .returned (.int .i64 (Lib.indexByte s.data.toList 46)) ∧ w' = w := by
 go_enter Tryz.func137, Tryz.ntmps137
 go_wp2
 rw [run_callFunc_extern Tryz.func148 (by kernel_rfl) (by kernel_rfl) (by kernel_rfl) (e := Extern.BytealgIndexByte.indexByte) (by kernel_rfl), Lib.run_indexByteString]
 simp only [Result.andThen]
 rw [Oper.upon_value]
 go_wp2
 go_ret
 exact ⟨rfl, rfl⟩
theorem ix_dot (s : ByteArray) : Lib.indexB s dotB = Lib.indexByte s.data.toList 46 := by
 have := Lib.index_one s.data.toList 46
 exact this
set_option maxHeartbeats 1000000 in
set_option maxRecDepth 100000 in
theorem liteIndex_calls (s : ByteArray) (w : World) : Calls Tryz.prog 119 #[.string s, .string dotB] w fun e w' => e = .returned (.int .i64 (Lib.indexB s dotB)) ∧ w' = w := by
 have HX : Hid (Lib.indexB s dotB = Lib.indexByte s.data.toList 46) := ix_dot s
 go_enter Tryz.func119, Tryz.ntmps119
 unfold dotB
 cases hq : (([46] : List UInt8) == s.toList) with
 | true =>
  have HZ : Hid (Lib.indexByte s.data.toList 46 = 0) := by
   rw [Hid, ← ByteArray.toList_eq, ← beq_iff_eq.1 hq]
   rfl
  go_wp2
  go_ret
  exact ⟨by rw [← HZ.out, ← HX.out]; rfl, rfl⟩
 | false =>
  go_wp2_with fail
  refine (liteIndexByte_calls s w).mono ?_
  rintro e w' ⟨rfl, rfl⟩
  go_wp2
  go_ret
  exact ⟨by rw [← HX.out]; rfl, rfl⟩
set_option maxHeartbeats 1000000 in
theorem sIndex_calls (s : ByteArray) (w : World) : Calls Tryz.prog 101 #[.string s, .string dotB] w fun e w' => e = .returned (.int .i64 (Lib.indexB s dotB)) ∧ w' = w := by
 have HC := liteIndex_calls s w
 generalize dotB = sep at HC ⊢
 go_enter Tryz.func101, Tryz.ntmps101
 go_wp2_with fail
 refine HC.mono ?_
 rintro e w' ⟨rfl, rfl⟩
 go_wp2
 go_ret
 exact ⟨rfl, rfl⟩

set_option maxHeartbeats 4000000 in
set_option maxRecDepth 100000 in
theorem genSplit_calls (s : ByteArray) (n : Int) (N : Nat) (w : World) (hs : s.size ≤ 140737488351296) (hn5 : n = 5) (hN : (N : Int) = min n ((s.size : Int) + 1)) :
  Calls Tryz.prog 94 #[.string s, .string dotB, .int .i64 0, .int .i64 n] w fun e w' =>
   e = .returned (.slice (some ⟨w.heap.size, 0, none⟩) (Lib.splitB dotB 0 (N - 1) s).length N) ∧ w' = w.alloc (.cells (Lib.cellsOf (Lib.splitB dotB 0 (N - 1) s) N) 9) := by
 have hNs : (N : Int) ≤ (s.size : Int) + 1 := by rw [hN]; exact Int.min_le_right _ _
 have hN5 : (N : Int) ≤ 5 := by rw [hN, hn5]; exact Int.min_le_left _ _
 have hN1 : (1 : Int) ≤ (N : Int) := by rw [hN]; exact Int.le_min.2 ⟨by omega, by omega⟩
 have hmk := run_make_row' (P := Tryz.prog) 39 9 (.string ⟨#[]⟩) 16 Tryz.underlying39 info_str rfl .i64 .i64 N (by omega) (by omega)
 have hmin : min n ((s.size : Int) + 1) = (N : Int) := hN.symm
 have hn0 : (n == 0) = false := by rw [hn5]; rfl
 have hnn : ¬ n < 0 := by omega
 have hnm : n ≤ 9223372036854775807 := by omega
 clear hn5
 have hse : dotB.toList.isEmpty = false := by rw [ByteArray.toList_eq]; rfl
 have hds : dotB.size = 1 := rfl
 have hI : ∀ (x : ByteArray) (w : World), Calls Tryz.prog 101 #[.string x, .string dotB] w fun e w' => e = .returned (.int .i64 (Lib.indexB x dotB)) ∧ w' = w := sIndex_calls
 clear hN
 generalize dotB = sep at *
 go_enter Tryz.func94, Tryz.ntmps94
 go_wp2
 clear hmk
 go_loopg [0, 10] (N - 1) (fun g s0 s10 wr => ∃ (done : List ByteArray) (rest : ByteArray), s0 = .string rest ∧ s10 = .int .i64 done.length ∧ done.length ≤ N - 1 ∧ g = N - 1 - done.length ∧ rest.size ≤ s.size ∧
   wr = w.alloc (.cells (Lib.cellsOf done N) 9) ∧ done ++ Lib.splitB sep 0 (N - 1 - done.length) rest = Lib.splitB sep 0 (N - 1) s)
 case atStart => exact ⟨[], s, rfl, rfl, Nat.zero_le _, rfl, Nat.le_refl _, by rw [Lib.cellsOf_nil]; rfl, rfl⟩
 case round =>
  obtain ⟨done, rest, rfl, rfl, hd, rfl, hrs, rfl, hsp⟩ := hrel
  have hnext : (Lib.cellsOf done N)[done.length]? = some (.string ⟨#[]⟩) := Lib.cellsOf_next (by omega)
  have HS : Hid (done ++ Lib.splitB sep 0 (N - 1 - done.length) rest = Lib.splitB sep 0 (N - 1) s) := hsp
  clear hsp
  have fin : Lib.splitB sep 0 (N - 1 - done.length) rest = [rest] → (Lib.splitB sep 0 (N - 1) s).length = done.length + 1 ∧ (Lib.cellsOf done N).setIfInBounds done.length (.string rest) = Lib.cellsOf (Lib.splitB sep 0 (N - 1) s) N := fun h => by
   have e := HS.out
   rw [h] at e
   rw [← e]
   exact ⟨by simp, Lib.cellsOf_set (by omega) rest⟩
  by_cases hlt : done.length < N - 1
  ·have hltz : ((done.length : Nat) : Int) < (N : Int) - 1 := by omega
   rcases Lib.indexB_cases rest sep with hix | ⟨i, hix, hroom⟩
   ·go_wp2_with (first | (go_at_call 101; refine (hI rest _).mono ?_; rintro e w' ⟨rfl, hw⟩; rw [hw, hix]))
    go_ret
    obtain ⟨f1, f2⟩ := fin (Lib.splitB_miss sep 0 _ rest hix)
    rw [f1, ← f2]
    exact ⟨by first | rfl | (congr 2 <;> omega), rfl⟩
   ·have c0 : ¬ ((i : Int) < 0) := by omega
    have c1 : (0 : Int) ≤ ↑i := by omega
    have c2 : (↑i : Int) ≤ ↑rest.size := by omega
    have c3 : (0 : Int) ≤ ↑i + 1 := by omega
    have c4 : (↑i + 1 : Int) ≤ ↑rest.size := by omega
    go_wp2_with (first | (go_at_call 101; refine (hI rest _).mono ?_; rintro e w' ⟨rfl, hw⟩; rw [hw, hix]))
    go_roundg (N - 1 - (done.length + 1))
    case measure => omega
    case rel =>
     refine ⟨done ++ [rest.extract 0 i], rest.extract (i + 1) rest.size, rfl, by simp, by simp; omega, by simp, by rw [ByteArray.size_extract]; omega, by rw [← Lib.cellsOf_set (by omega)], ?_⟩
     rw [← HS.out, show N - 1 - done.length = (N - 1 - (done.length + 1)) + 1 by omega, Lib.splitB_hit sep 0 _ rest i hix, hds]
     simp
  ·have hltz : ¬ (((done.length : Nat) : Int) < (N : Int) - 1) := by omega
   go_wp2
   go_ret
   obtain ⟨f1, f2⟩ := fin (by rw [show N - 1 - done.length = 0 by omega]; rfl)
   rw [f1, ← f2]
   exact ⟨by first | rfl | (congr 2 <;> omega), rfl⟩
theorem splitN_calls (s : ByteArray) (w : World) (hs : s.size ≤ 140737488351296) :
  Calls Tryz.prog 87 #[.string s, .string dotB, .int .i64 5] w fun e w' =>
   e = .returned (.slice (some ⟨w.heap.size, 0, none⟩) (words5 s).length (min 5 (s.size + 1))) ∧ w' = w.alloc (.cells (Lib.cellsOf (words5 s) (min 5 (s.size + 1))) 9) := by
 have HG := genSplit_calls s 5 (min 5 (s.size + 1)) w hs rfl (by omega)
 rw [show Lib.splitB dotB 0 (min 5 (s.size + 1) - 1) s = words5 s from rfl] at HG
 generalize words5 s = ws at *
 generalize min 5 (s.size + 1) = N at *
 generalize dotB = sep at *
 go_enter Tryz.func87, Tryz.ntmps87
 go_wp2_with fail
 refine HG.mono ?_
 rintro e w' ⟨rfl, hw⟩
 rw [hw]
 go_wp2
 go_ret
 exact ⟨rfl, rfl⟩
end Go.Proofs.YthgcnmilaifkoaaGreatDoor

/- Layer 9 (records): strconv.FormatUint, octet. -/
namespace Go.Proofs.YthgcnmilaifkoaaGreatDoor
open Go.RowKit Go.Sort
set_option linter.unusedVariables false

/-- The library's variables that are read: the powers of ten and the two errors. -/
def Vs (w : World) : Prop := Lib.TabIs Tryz.prog w "internal/strconv.uint64pow10" .u64 Lib.pow10Tab ∧ (∃ t p, w.var? Tryz.prog "strconv.ErrSyntax" = some #[.iface t p]) ∧ (∃ t p, w.var? Tryz.prog "strconv.ErrRange" = some #[.iface t p])
theorem var_stay {P : Program} {w w' : World} {n : String} {cs : Array Value} (h : w.var? P n = some cs) (hb : Below w.heap.size w w') : w'.var? P n = some cs := by
 unfold World.var? at h ⊢
 cases hg : P.globalNamed n with
 | none => rw [hg] at h; cases h
 | some g =>
  rw [hg] at h
  simp only [Option.bind_some] at h ⊢
  have hlt : g < w.heap.size := by
   rcases Nat.lt_or_ge g w.heap.size with h' | h'
   ·exact h'
   ·rw [Array.getElem?_eq_none h'] at h; cases h
  rw [hb.block g hlt]
  exact h
theorem Vs.stay {w w' : World} (h : Vs w) (hb : Below w.heap.size w w') : Vs w' := by
 obtain ⟨h1, ⟨t, p, h2⟩, ⟨t', p', h3⟩⟩ := h
 exact ⟨var_stay h1 hb, ⟨t, p, var_stay h2 hb⟩, ⟨t', p', var_stay h3 hb⟩⟩

set_option maxRecDepth 100000 in
set_option maxHeartbeats 1000000 in
theorem intFormatUint_calls (u : Nat) (hu : u ≤ 255) (w : World) (hv : Vs w) :
  Calls Tryz.prog 104 #[.int .u64 u, .int .i64 10] w fun e w' => e = .returned (.string ⟨(Lib.decDigits u).toArray⟩) ∧ Below w.heap.size w w' := by
 by_cases hs : u < 100
 ·have q : (u : Int) < 100 := by omega
  go_enter Tryz.func104, Tryz.ntmps104
  go_wp2_with (go_at_call 126; refine (Tryz.internal_strconv_small u hs _).mono ?_; rintro e w' ⟨rfl, rfl⟩)
  go_ret
  exact ⟨rfl, Below.refl _ _⟩
 ·have q : ¬ (u : Int) < 100 := by omega
  have hu1 : 1 ≤ u := by omega
  have hu64 : u < 18446744073709551616 := by omega
  have hnd20 : Lib.nDigits u ≤ 20 := by have := Lib.numDigits_eq u hu1 hu64; split at this <;> omega
  have hb3 : Lib.nDigits u ≤ 24 := by omega
  have hal : Tryz.prog.arrayLen 184 = 24 := by kernel_rfl
  have hsl1 : ∀ W, (Instr.sliceAt 184 (.pointer (some ⟨w.heap.size, 0, none⟩)) none (some (.int .i64 (Lib.nDigits u : Int))) none).run Tryz.prog W = .ok (.slice (some ⟨w.heap.size, 0, none⟩) (Lib.nDigits u) 24) W := fun W => by
   rw [run_sliceAt_array_h W 184 ⟨w.heap.size, 0, none⟩ (by simp [Program.arrayLen, Program.elem, Tryz.underlying184]) .i64 (Lib.nDigits u : Int) (by omega) (by rw [hal]; omega)]
   go_simp
  have hH0 := Lib.holds_zero0 w 184 (Lib.nDigits u) (by omega)
  have hfmt := Tryz.internal_strconv_formatBase10 w.heap.size 0 24 u (Array.replicate (Lib.nDigits u) 0) (w.alloc (.cells Lib.zeros24 184)) hH0 (by rw [Array.size_replicate]; exact Lib.lt_pow_nDigits u) hu64 (by rw [Array.size_replicate]; omega)
  rw [Array.size_replicate] at hfmt
  have HH0 := Lib.hid hH0
  have HV : Hid (Vs w) := hv
  clear hH0 hal hv
  go_enter Tryz.func104, Tryz.ntmps104
  go_wp2_with (first
   | (go_at_call 127; refine (Tryz.internal_strconv_numDigits u hu1 hu64 _ (Lib.tabIs_alloc HV.out.1 _)).mono ?_; rintro e w' ⟨rfl, rfl⟩))
  go_at_call 128
  refine hfmt.mono ?_
  rintro e w' ⟨rfl, k, v', dk, rfl, hF⟩
  have hcv : (convert 50 9 (.slice (some ⟨w.heap.size, 0, none⟩) (Lib.nDigits u) 24)).run Tryz.prog ((putRow (fun (b : UInt8) => Value.int .u8 (b.toNat : Int)) (w.alloc (.cells Lib.zeros24 184)) w.heap.size 0 dk).drewN k) = .ok (.string ⟨(Lib.decDigits u).toArray⟩) ((putRow (fun (b : UInt8) => Value.int .u8 (b.toNat : Int)) (w.alloc (.cells Lib.zeros24 184)) w.heap.size 0 dk).drewN k) := by
   have h := run_convert_bytes_back (P := Tryz.prog) ((putRow (fun (b : UInt8) => Value.int .u8 (b.toNat : Int)) (w.alloc (.cells Lib.zeros24 184)) w.heap.size 0 dk).drewN k) 50 9 5 ⟨w.heap.size, 0, none⟩ 24 (Lib.decDigits u) Tryz.underlying50 Tryz.underlying5 Tryz.underlying9 (fun j hj => by
    rw [Lib.row_is_numeral hF j hj, Lib.add_plain, World.cell?_drewN]
    exact cell?_putRow (fun (b : UInt8) => Value.int .u8 (b.toNat : Int)) _ w.heap.size 0 _ dk HH0.out (by rw [hF.size, Array.size_replicate]) j (by rw [hF.size]; rw [Lib.decDigits_length] at hj; exact hj))
   rw [Lib.decDigits_length] at h
   exact h
  obtain ⟨os, eo⟩ := Lib.fin_at w (.cells Lib.zeros24 184) dk k 0
  have HB : Hid (Below w.heap.size w ((putRow (fun (b : UInt8) => Value.int .u8 (b.toNat : Int)) (w.alloc (.cells Lib.zeros24 184)) w.heap.size 0 dk).drewN k)) := by rw [eo]; exact Lib.below_grow _ w (Nat.le_refl _) k os
  clear eo
  go_wp2
  go_ret
  exact ⟨rfl, HB.out⟩
theorem formatUint_calls (u : Nat) (hu : u ≤ 255) (w : World) (hv : Vs w) :
  Calls Tryz.prog 96 #[.int .u64 u, .int .i64 10] w fun e w' => e = .returned (.string ⟨(Lib.decDigits u).toArray⟩) ∧ Below w.heap.size w w' := by
 have HC := intFormatUint_calls u hu w hv
 go_enter Tryz.func96, Tryz.ntmps96
 go_wp2_with fail
 refine HC.mono ?_
 rintro e w1 ⟨rfl, hb⟩
 have HB : Hid (Below w.heap.size w w1) := hb
 clear hb HC
 go_wp2
 go_ret
 exact ⟨rfl, HB.out⟩

/-- What octet answers. -/
def octA (s : ByteArray) : Array Value := match octP s.data.toList with
 | some n => #[.int .u8 n, .bool true]
 | none => #[.int .u8 0, .bool false]
theorem octA_some {s : ByteArray} {n : Nat} (h : octP s.data.toList = some n) : octA s = #[.int .u8 n, .bool true] := by simp [octA, h]
theorem octA_none {s : ByteArray} (h : octP s.data.toList = none) : octA s = #[.int .u8 0, .bool false] := by simp [octA, h]
theorem octP_fail {l : List UInt8} (h : ∀ n, Lib.parseUintB 8 l ≠ .ok n) : octP l = none := by
 unfold octP
 split
 ·next m hm => exact absurd hm (h m)
 ·rfl
theorem ret_tuple {x y : Array Value} (h : x = y) : Ending.returned (.tuple x) = .returned (.tuple y) := by rw [h]

set_option maxRecDepth 100000 in
set_option maxHeartbeats 1000000 in
theorem octet_calls (s : ByteArray) (w : World) (hs : s.size ≤ 140737488351296) (hv : Vs w) :
  Calls Tryz.prog 88 #[.string s] w fun e w' => e = .returned (.tuple (octA s)) ∧ Below w.heap.size w w' := by
 cases hp : Lib.parseUintB 8 s.data.toList with
 | ok n =>
  obtain ⟨hn, ho⟩ := oct_ok hp
  have HP := Tryz.strconv_ParseUint_10_at8_ok s (by omega) n hp w
  have HP : Hid (Calls Tryz.prog 95 #[.string s, .int .i64 10, .int .i64 8] w fun e w' => e = .returned (.tuple #[.int .u64 n, .nilIface]) ∧ Below w.heap.size w w') := HP.mono fun e w' ⟨h1, h2⟩ => ⟨h1, by
   rcases h2 with rfl | rfl
   ·exact Below.refl _ _
   ·exact Lib.bytesWorld_below _ _ _⟩
  have HV : Hid (Vs w) := hv
  have qn : (n : Int) ≤ 255 := by omega
  have qm : (n : Int) % 256 = n := by omega
  clear hp hv
  by_cases hd : Lib.decDigits n = s.data.toList
  ·have HN : Hid (#[.int .u8 (n : Int), .bool true] = octA s) := (octA_some (by rw [ho, if_pos hd])).symm
   have qs : ((⟨(Lib.decDigits n).toArray⟩ : ByteArray).toList == s.toList) = true := by rw [ByteArray.toList_eq, ByteArray.toList_eq, hd]; exact beq_self_eq_true _
   have qs2 : (Lib.decDigits n == s.toList) = true := by rw [ByteArray.toList_eq, hd]; exact beq_self_eq_true _
   clear hd ho
   go_enter Tryz.func88, Tryz.ntmps88
   go_wp2_with fail
   refine HP.out.mono ?_
   rintro e w1 ⟨rfl, hb1⟩
   have HB1 : Hid (Below w.heap.size w w1) := hb1
   clear hb1 HP
   go_wp2_with fail
   refine (formatUint_calls n hn w1 (HV.out.stay HB1.out)).mono ?_
   rintro e w2 ⟨rfl, hb2⟩
   have HB2 : Hid (Below w.heap.size w w2) := HB1.out.trans (hb2.mono HB1.out.size)
   clear hb2
   go_wp2
   go_ret2
   exact ⟨ret_tuple HN.out, HB2.out⟩
  ·have HN : Hid (#[.int .u8 0, .bool false] = octA s) := (octA_none (by rw [ho, if_neg hd])).symm
   have qs : ((⟨(Lib.decDigits n).toArray⟩ : ByteArray).toList == s.toList) = false := by rw [ByteArray.toList_eq, ByteArray.toList_eq]; simpa using hd
   have qs2 : (Lib.decDigits n == s.toList) = false := by rw [ByteArray.toList_eq]; simpa using hd
   clear hd ho
   go_enter Tryz.func88, Tryz.ntmps88
   go_wp2_with fail
   refine HP.out.mono ?_
   rintro e w1 ⟨rfl, hb1⟩
   have HB1 : Hid (Below w.heap.size w w1) := hb1
   clear hb1 HP
   go_wp2_with fail
   refine (formatUint_calls n hn w1 (HV.out.stay HB1.out)).mono ?_
   rintro e w2 ⟨rfl, hb2⟩
   have HB2 : Hid (Below w.heap.size w w2) := HB1.out.trans (hb2.mono HB1.out.size)
   clear hb2
   go_wp2
   go_ret2
   exact ⟨ret_tuple HN.out, HB2.out⟩
 | «syntax» =>
  obtain ⟨_, ⟨te, pe, hv2⟩, _⟩ := hv
  have HP : Hid (Calls Tryz.prog 95 #[.string s, .int .i64 10, .int .i64 8] w fun e w' => ∃ n t p, e = .returned (.tuple #[.int .u64 n, .iface t p]) ∧ Below w.heap.size w w') := (Tryz.strconv_ParseUint_10_at8_syntax_var s (by omega) hp te pe w hv2).mono fun e w' ⟨N, h1, _, _, h2⟩ => ⟨_, _, _, h1, h2⟩
  have HN : Hid (#[.int .u8 0, .bool false] = octA s) := (octA_none (octP_fail fun n => by rw [hp]; simp)).symm
  clear hv2 hp
  go_enter Tryz.func88, Tryz.ntmps88
  go_wp2_with fail
  refine HP.out.mono ?_
  rintro e w1 ⟨n, t, p, rfl, hb1⟩
  have HB1 : Hid (Below w.heap.size w w1) := hb1
  clear hb1 HP
  go_wp2
  go_ret2
  exact ⟨ret_tuple HN.out, HB1.out⟩
 | range =>
  obtain ⟨_, _, ⟨te, pe, hv2⟩⟩ := hv
  have HP : Hid (Calls Tryz.prog 95 #[.string s, .int .i64 10, .int .i64 8] w fun e w' => ∃ n t p, e = .returned (.tuple #[.int .u64 n, .iface t p]) ∧ Below w.heap.size w w') := (Tryz.strconv_ParseUint_10_at8_range_var s (by omega) hp te pe w hv2).mono fun e w' ⟨N, h1, _, _, h2⟩ => ⟨_, _, _, h1, h2⟩
  have HN : Hid (#[.int .u8 0, .bool false] = octA s) := (octA_none (octP_fail fun n => by rw [hp]; simp)).symm
  clear hv2 hp
  go_enter Tryz.func88, Tryz.ntmps88
  go_wp2_with fail
  refine HP.out.mono ?_
  rintro e w1 ⟨n, t, p, rfl, hb1⟩
  have HB1 : Hid (Below w.heap.size w w1) := hb1
  clear hb1 HP
  go_wp2
  go_ret2
  exact ⟨ret_tuple HN.out, HB1.out⟩
end Go.Proofs.YthgcnmilaifkoaaGreatDoor

/- Layer 9 (records): Addr. -/
namespace Go.Proofs.YthgcnmilaifkoaaGreatDoor
open Go.RowKit
set_option linter.unusedVariables false

/-- What Addr answers: four bytes and an error. -/
def fourC (l : List Nat) : Array Value := #[.int .u8 (l.getD 0 0), .int .u8 (l.getD 1 0), .int .u8 (l.getD 2 0), .int .u8 (l.getD 3 0)]
def adrA (s : ByteArray) : Array Value := #[.agg (fourC (adrV s)), .int .i64 (adrE s)]
theorem adrA_no {s : ByteArray} (h : adrOk s = false) : adrA s = #[.agg (fourC [0, 0, 0, 0]), .int .i64 91] := by unfold adrA; rw [(adr_no h).1, (adr_no h).2]
theorem adrA_yes {s : ByteArray} (h : adrOk s = true) : adrA s = #[.agg (fourC (adrTo (wsOf s 46) 4)), .int .i64 0] := by unfold adrA; rw [(adr_yes h).1, (adr_yes h).2]
theorem info_four : (Tryz.prog.info? 92).map (·.size) = some 4 := by kernel_rfl
/-- The end of a function whose first result lies in a box. -/
theorem ret_fourA {fn : Func} {R : Ending → World → Prop} {a : Act} {w : World} {g : Nat} {cs : Array Value} {e : Value} (hres : fn.results = #[.cell 2 92, .tmp 3]) (ht : a.tmps.getD 2 undef = .pointer (some ⟨g, 0, none⟩)) (h3 : a.tmps.getD 3 undef = e) (hd : a.defers = [])
  (hg : w.heap[g]? = some (.cells cs 92 (0, 0))) (hz : cs.size = 4) (hR : R (.returned (.tuple #[.agg cs, e])) w) : bodyPost Tryz.prog fn R .ret a w := by
 refine bodyPost_ret ((results_cell_tmp hres _ _ _).trans ?_) hd hR
 have hl := run_loadVar_row (P := Tryz.prog) w g 92 92 cs (0, 0) _ hg Tryz.underlying92 rfl (by rw [info_four, hz])
 rw [ht, h3]
 simp only [asAddr, Sem.run_pure, Result.andThen, hl]
theorem fourC_set (ws : List ByteArray) (k n : Nat) (hk : k < 4) (hn : octN (ws.getD k ⟨#[]⟩) = n) : (fourC (adrTo ws k)).setIfInBounds k (.int .u8 n) = fourC (adrTo ws (k + 1)) := by
 subst hn
 match k, hk with
 | 0, _ => rfl
 | 1, _ => rfl
 | 2, _ => rfl
 | 3, _ => rfl
theorem fourC_at (l : List Nat) (k : Nat) (hk : k < 4) : (fourC l)[k]? = some (.int .u8 (l.getD k 0)) := by
 match k, hk with
 | 0, _ => rfl
 | 1, _ => rfl
 | 2, _ => rfl
 | 3, _ => rfl
/-- Four bytes stored into a box. -/
def put4 (w : World) (g : Nat) (l : List Nat) : World := (((w.setCell ⟨g, 0, none⟩ (.int .u8 (l.getD 0 0))).setCell ⟨g, 1, none⟩ (.int .u8 (l.getD 1 0))).setCell ⟨g, 2, none⟩ (.int .u8 (l.getD 2 0))).setCell ⟨g, 3, none⟩ (.int .u8 (l.getD 3 0))
theorem put4_row {w : World} {g : Nat} {m : List Nat} (h : w.heap[g]? = some (.cells (fourC m) 92)) (l : List Nat) : (put4 w g l).heap[g]? = some (.cells (fourC l) 92) := by
 unfold put4
 have h1 := Lib.heap_setCell_same (i := 0) h (.int .u8 (l.getD 0 0))
 have h2 := Lib.heap_setCell_same (i := 1) h1 (.int .u8 (l.getD 1 0))
 have h3 := Lib.heap_setCell_same (i := 2) h2 (.int .u8 (l.getD 2 0))
 exact Lib.heap_setCell_same (i := 3) h3 (.int .u8 (l.getD 3 0))
theorem put4_below {B : Nat} {a w : World} {g : Nat} (h : Below B a w) (hg : B ≤ g) (l : List Nat) : Below B a (put4 w g l) := (((h.setCell (p := ⟨g, 0, none⟩) hg _).setCell (p := ⟨g, 1, none⟩) hg _).setCell (p := ⟨g, 2, none⟩) hg _).setCell (p := ⟨g, 3, none⟩) hg _
/-- The loop of Addr over its four words. -/
structure AdI (w : World) (ws : List ByteArray) (cap k : Nat) (wr : World) : Prop where
 le : k ≤ 4
 res : wr.heap[w.heap.size]? = some (.cells (fourC [0, 0, 0, 0]) 92)
 arr : wr.heap[w.heap.size + 1]? = some (.cells (fourC (adrTo ws k)) 92)
 wrd : wr.heap[w.heap.size + 2]? = some (.cells (Lib.cellsOf ws cap) 9)
 below : Below w.heap.size w wr
 size : w.heap.size + 3 ≤ wr.heap.size
 good : ∀ j (h : j < ws.length), j < k → ∃ n, octP ws[j].data.toList = some n
theorem AdI.call {w : World} {ws : List ByteArray} {cap k : Nat} {wr w1 : World} (h : AdI w ws cap k wr) (hb : Below wr.heap.size wr w1) : AdI w ws cap k w1 := by
 have hz := h.size
 exact ⟨h.le, (hb.block _ (by omega)).trans h.res, (hb.block _ (by omega)).trans h.arr, (hb.block _ (by omega)).trans h.wrd, h.below.trans (hb.mono (by omega)), Nat.le_trans hz hb.size, h.good⟩
theorem AdI.store {w : World} {ws : List ByteArray} {cap k : Nat} {wr : World} (h : AdI w ws cap k wr) (hk : k < 4) (hl : ws.length = 4) {n : Nat} (hn : octP (ws[k]'(by omega)).data.toList = some n) : AdI w ws cap (k + 1) (wr.setCell ⟨w.heap.size + 1, k, none⟩ (.int .u8 n)) := by
 have hz := h.size
 refine ⟨by omega, ?_, ?_, ?_, h.below.setCell (by show w.heap.size ≤ w.heap.size + 1; omega) _, by rw [World.size_setCell]; exact hz, fun j hj hjk => ?_⟩
 ·rw [heap_setCell_other _ _ _ _ (by show w.heap.size ≠ w.heap.size + 1; omega)]; exact h.res
 ·rw [Lib.heap_setCell_same h.arr]
  rw [fourC_set ws k n hk (by unfold octN; rw [List.getD_eq_getElem?_getD, List.getElem?_eq_getElem (by omega)]; simp [hn])]
 ·rw [heap_setCell_other _ _ _ _ (by show w.heap.size + 2 ≠ w.heap.size + 1; omega)]; exact h.wrd
 ·rcases Nat.lt_or_ge j k with h' | h'
  ·exact h.good j hj h'
  ·obtain rfl : j = k := by omega
   exact ⟨n, hn⟩
theorem alloc_heap (w : World) (o : Obj) : (w.alloc o).heap = w.heap.push o := rfl
theorem three_alloc (w : World) (o1 o2 o3 : Obj) : (((w.alloc o1).alloc o2).alloc o3).heap[w.heap.size]? = some o1 ∧ (((w.alloc o1).alloc o2).alloc o3).heap[w.heap.size + 1]? = some o2 ∧ (((w.alloc o1).alloc o2).alloc o3).heap[w.heap.size + 2]? = some o3 ∧
  Below w.heap.size w (((w.alloc o1).alloc o2).alloc o3) ∧ (((w.alloc o1).alloc o2).alloc o3).heap.size = w.heap.size + 3 := by
 have h1 : (w.alloc o1).heap.size = w.heap.size + 1 := by rw [alloc_heap, Array.size_push]
 have h2 : ((w.alloc o1).alloc o2).heap.size = w.heap.size + 2 := by rw [alloc_heap, Array.size_push, h1]
 refine ⟨?_, ?_, ?_, (((Below.refl _ _).alloc (Nat.le_refl _) _).alloc (by omega) _).alloc (by omega) _, by rw [alloc_heap, Array.size_push, h2]⟩
 ·rw [alloc_heap, Array.getElem?_push, if_neg (by omega), alloc_heap, Array.getElem?_push, if_neg (by omega), alloc_heap, Array.getElem?_push, if_pos rfl]
 ·rw [alloc_heap, Array.getElem?_push, if_neg (by omega), alloc_heap, Array.getElem?_push, if_pos h1.symm]
 ·rw [alloc_heap, Array.getElem?_push, if_pos h2.symm]
theorem cellsOf_at {ws : List ByteArray} {cap k : Nat} (hk : k < ws.length) : (Lib.cellsOf ws cap)[k]? = some (.string ws[k]) := by
 unfold Lib.cellsOf
 rw [List.getElem?_toArray, List.getElem?_append_left (by simpa using hk), List.getElem?_map, List.getElem?_eq_getElem hk]
 rfl

set_option maxRecDepth 100000 in
set_option maxHeartbeats 1000000 in
theorem addr_calls (s : ByteArray) (w : World) (hs : s.size ≤ 140737488351296) (hv : Vs w) :
  Calls Tryz.prog 76 #[.string s] w fun e w' => e = .returned (.tuple (adrA s)) ∧ Below w.heap.size w w' := by
 have HV : Hid (Vs w) := hv
 clear hv
 have HS : Hid (∀ w, Calls Tryz.prog 87 #[.string s, .string dotB, .int .i64 5] w fun e w' =>
   e = .returned (.slice (some ⟨w.heap.size, 0, none⟩) (words5 s).length (min 5 (s.size + 1))) ∧ w' = w.alloc (.cells (Lib.cellsOf (words5 s) (min 5 (s.size + 1))) 9)) := fun w => splitN_calls s w hs
 have HZ : Hid (∀ p ∈ words5 s, p.size ≤ s.size) := fun p hp => splitB_le _ _ _ _ p hp
 by_cases h4 : (words5 s).length = 4
 case neg =>
  have HN : Hid (adrA s = #[.agg (fourC [0, 0, 0, 0]), .int .i64 91]) := adrA_no (adr_len (words5_not s h4))
  have q5 : (((words5 s).length : Int) != 4) = true := by rw [bne, beq_eq_false_iff_ne.2 (by omega)]; rfl
  have q6 : ¬ ((words5 s).length : Int) = 4 := by omega
  go_enter Tryz.func76, Tryz.ntmps76
  go_wp2_with fail
  refine (HS.out _).mono ?_
  rintro e w1 ⟨rfl, rfl⟩
  go_wp2
  exact ret_fourA (g := w.heap.size) (cs := fourC [0, 0, 0, 0]) (e := .int .i64 91) rfl rfl rfl rfl (three_alloc _ _ _ _).1 rfl ⟨by rw [HN.out], (three_alloc _ _ _ _).2.2.2.1⟩
 have HW : Hid (words5 s = wsOf s 46) := words5_four s h4
 generalize words5 s = ws at *
 generalize min 5 (s.size + 1) = cap at *
 have HL : Hid (ws.length = 4) := h4
 go_enter Tryz.func76, Tryz.ntmps76
 go_wp2_with fail
 refine (HS.out _).mono ?_
 rw [h4]
 rintro e w1 ⟨rfl, hw⟩
 have HI : Hid (AdI w ws cap 0 w1) := by
  subst hw
  obtain ⟨a, b, c, d, e⟩ := three_alloc w (.cells (fourC [0, 0, 0, 0]) 92) (.cells (fourC [0, 0, 0, 0]) 92) (.cells (Lib.cellsOf ws cap) 9)
  exact ⟨by omega, a, b, c, d, Nat.le_of_eq e.symm, fun j _ h => by omega⟩
 clear hw h4
 go_wp2
 go_loopw [18] (fun x wr => ∃ k : Nat, k ≤ 4 ∧ x = .int .i64 k ∧ Hid (AdI w ws cap k wr)) (fun x _ => 4 - (intOf x).toNat)
 case atStart => exact ⟨0, Nat.zero_le _, rfl, HI⟩
 case round =>
  obtain ⟨k, hk, rfl, HJ⟩ := hrel
  clear HI
  by_cases hlt : k < 4
  ·have hkw : k < ws.length := by rw [HL.out]; exact hlt
   have c0 : wr.cell? ⟨w.heap.size + 1 + 1, k, none⟩ = some (.string ws[k]) := (cell_of_row _ _ _ _ _ _ HJ.out.wrd).trans (cellsOf_at hkw)
   have HO : Hid (Calls Tryz.prog 88 #[.string ws[k]] wr fun e w' => e = .returned (.tuple (octA ws[k])) ∧ Below wr.heap.size wr w') := octet_calls ws[k] wr (by have := HZ.out ws[k] (List.getElem_mem hkw); omega) (HV.out.stay HJ.out.below)
   obtain ⟨p, hp⟩ : ∃ p, p = ws[k] := ⟨_, rfl⟩
   cases ho : octP ws[k].data.toList with
   | some n =>
    have hn := oct_le ho
    have qn : (n : Int) ≤ 255 := by omega
    rw [octA_some ho] at HO
    have HN : Hid (octP ws[k].data.toList = some n) := ho
    clear ho
    rw [← hp] at c0 HO
    have Hp : Hid (p = ws[k]) := hp
    clear hp
    go_wp2_with fail
    refine HO.out.mono ?_
    rintro e w1 ⟨rfl, hb1⟩
    have HJ1 : Hid (AdI w ws cap k w1) := HJ.out.call hb1
    have c1 : w1.cell? ⟨w.heap.size + 1, k, none⟩ = some (.int .u8 ((adrTo ws k).getD k 0)) := (cell_of_row _ _ _ _ _ _ HJ1.out.arr).trans (fourC_at _ k hlt)
    have z1 : w1.frozen? ⟨w.heap.size + 1, k, none⟩ = false := by simp [World.frozen?, HJ1.out.arr]
    have HJ2 : Hid (AdI w ws cap (k + 1) (w1.setCell ⟨w.heap.size + 1, k, none⟩ (.int .u8 n))) := HJ1.out.store hlt HL.out HN.out
    clear hb1 HO
    go_wp2
    go_roundw
    case rel => exact ⟨k + 1, by omega, by go_num, HJ2⟩
    case measure => simp [intOf]; omega
   | none =>
    have HN : Hid (adrA s = #[.agg (fourC [0, 0, 0, 0]), .int .i64 91]) := adrA_no (adr_bad (k := k) (by rw [← HW.out]; exact hkw) (by simp only [← HW.out]; exact ho))
    rw [octA_none ho] at HO
    clear ho
    rw [← hp] at c0 HO
    clear hp
    go_wp2_with fail
    refine HO.out.mono ?_
    rintro e w1 ⟨rfl, hb1⟩
    have HJ1 : Hid (AdI w ws cap k w1) := HJ.out.call hb1
    have c1 : ∀ j, j < 4 → w1.cell? ⟨w.heap.size, j, none⟩ = some (.int .u8 0) := fun j hj => (cell_of_row _ _ _ _ _ _ HJ1.out.res).trans ((fourC_at _ j hj).trans (by match j, hj with | 0, _ => rfl | 1, _ => rfl | 2, _ => rfl | 3, _ => rfl))
    have r0 := c1 0 (by omega)
    have r1 := c1 1 (by omega)
    have r2 := c1 2 (by omega)
    have r3 := c1 3 (by omega)
    have z1 : ∀ j, w1.frozen? ⟨w.heap.size, j, none⟩ = false := fun j => by simp [World.frozen?, HJ1.out.res]
    clear hb1 HO c1
    go_wp2
    exact ret_fourA (g := w.heap.size) (cs := fourC [0, 0, 0, 0]) (e := .int .i64 91) rfl rfl rfl rfl (put4_row HJ1.out.res [0, 0, 0, 0]) rfl ⟨by rw [HN.out], put4_below HJ1.out.below (Nat.le_refl _) [0, 0, 0, 0]⟩
  ·obtain rfl : k = 4 := by omega
   have HG : Hid (adrA s = #[.agg (fourC (adrTo ws 4)), .int .i64 0]) := by
    rw [HW.out]
    exact adrA_yes (adr_good (by rw [← HW.out]; exact HL.out) fun k hk => by
     have := HJ.out.good k (by rw [HW.out]; exact hk) (by rw [← HW.out, HL.out] at hk; exact hk)
     simpa only [← HW.out] using this)
   have c1 : ∀ j, j < 4 → wr.cell? ⟨w.heap.size + 1, j, none⟩ = some (.int .u8 ((adrTo ws 4).getD j 0)) := fun j hj => (cell_of_row _ _ _ _ _ _ HJ.out.arr).trans (fourC_at _ j hj)
   have r0 := c1 0 (by omega)
   have r1 := c1 1 (by omega)
   have r2 := c1 2 (by omega)
   have r3 := c1 3 (by omega)
   have d1 : ∀ j, j < 4 → wr.cell? ⟨w.heap.size, j, none⟩ = some (.int .u8 0) := fun j hj => (cell_of_row _ _ _ _ _ _ HJ.out.res).trans ((fourC_at _ j hj).trans (by match j, hj with | 0, _ => rfl | 1, _ => rfl | 2, _ => rfl | 3, _ => rfl))
   have d2 := d1 0 (by omega)
   have d3 := d1 1 (by omega)
   have d4 := d1 2 (by omega)
   have d5 := d1 3 (by omega)
   have z1 : ∀ j, wr.frozen? ⟨w.heap.size, j, none⟩ = false := fun j => by simp [World.frozen?, HJ.out.res]
   clear c1 d1
   go_wp2
   exact ret_fourA (g := w.heap.size) (cs := fourC (adrTo ws 4)) (e := .int .i64 0) rfl rfl rfl rfl (put4_row HJ.out.res (adrTo ws 4)) rfl ⟨by rw [HG.out], put4_below HJ.out.below (Nat.le_refl _) (adrTo ws 4)⟩
end Go.Proofs.YthgcnmilaifkoaaGreatDoor
