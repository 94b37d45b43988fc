import Derived.Test.YtelhgjepjieocaaDoorJxApC
import Derived.Lib.AppendStr
/- Layer 18 (json): appendText. -/
namespace Go.Proofs.YtelhgjepjieocaaDoor
open Go.RowKit Go.Sort
set_option linter.unusedVariables false

theorem tooLong_calls (n cap : Nat) (ao : Option Addr) (w : World) : Calls Tryd.prog 32 #[.slice ao n cap] w (fun e w' => e = .returned (.bool (decide (65536 < (n : Int)))) ∧ w' = w) := by
  go_enter Tryd.func32, Tryd.ntmps32
  go_wp2
  go_ret
  exact ⟨rfl, rfl⟩

/-- The bytes of a text, printed behind l, till it is too long. -/
def chrsP : List Nat → List Nat → List Nat
  | [], l => l
  | c :: cs, l => if 65536 < l.length then l else chrsP cs (l ++ chrP c)
def bytesN (s : ByteArray) (k : Nat) : List Nat := (tl s k).map UInt8.toNat
def txtP (s : ByteArray) (l : List Nat) : List Nat := chrsP (bytesN s 0) (l ++ [34]) ++ [34]
theorem bytesN_nil {s : ByteArray} : bytesN s s.size = [] := by simp [bytesN, tl]
theorem bytesN_cons {s : ByteArray} {k : Nat} (h : k < s.size) : bytesN s k = s[k].toNat :: bytesN s (k + 1) := by
  unfold bytesN; rw [tl_cons h]; rfl
theorem chrsP_long {cs l : List Nat} (h : 65536 < l.length) : chrsP cs l = l := by
  cases cs with
  | nil => rfl
  | cons c cs => simp [chrsP, h]
theorem chrsP_cons {c : Nat} {cs l : List Nat} (h : ¬ 65536 < l.length) : chrsP (c :: cs) l = chrsP cs (l ++ chrP c) := by simp [chrsP, h]
theorem chrP_len (c : Nat) : (chrP c).length ≤ 6 := by
  unfold chrP
  split
  · simp
  · split <;> simp
theorem chrP_pos (c : Nat) : 0 < (chrP c).length := by
  unfold chrP
  split
  · simp
  · split <;> simp
/-- How far the text's bytes are written. -/
structure ApI (w : World) (B : Nat) (v : Value) (s : ByteArray) (all : List Nat) (k : Nat) (x : Value) (l : List Nat) (wr : World) : Prop where
  own : Ow wr B 5 x (nbs l)
  grew : Grew w wr v x
  rest : chrsP (bytesN s k) l = all
  small : l.length ≤ 1048600
  base : B ≤ wr.heap.size

set_option maxRecDepth 100000 in
set_option maxHeartbeats 4000000 in
theorem appendText_calls (s : ByteArray) (hs : s.size ≤ 1152921504606846976) (v : Value) (B : Nat) (l : List Nat) (w : World) (hl : l.length ≤ 1048590) (ho : Ow w B 5 v (nbs l)) (hB : B ≤ w.heap.size) :
    Calls Tryd.prog 50 #[v, .string s] w (fun e w' => ∃ v', e = .returned v' ∧ Ow w' B 5 v' (nbs (txtP s l)) ∧ Grew w w' v v') := by
  obtain ⟨ao, cap, rfl, -, -, -⟩ := ho.shape
  obtain ⟨all, Hall⟩ : ∃ all : List Nat, Hid (all = chrsP (bytesN s 0) (l ++ [34])) := ⟨chrsP (bytesN s 0) (l ++ [34]), (Eq.refl _ : chrsP (bytesN s 0) (l ++ [34]) = _)⟩
  have HO : Hid (Ow w B 5 (.slice ao (nbs l).length cap) (nbs l) ∧ l.length ≤ 1048590 ∧ B ≤ w.heap.size) := ⟨ho, hl, hB⟩
  have HS : Hid (s.size ≤ 1152921504606846976) := hs
  clear ho hl hB hs
  rw [nbs_length] at HO ⊢
  unfold txtP
  rw [← Hall.out]
  go_enter Tryd.func50, Tryd.ntmps50
  go_wp2_with (at_builtin; go_must (refine append_lit w rfl (.tmp 6) (.tmp 7) rfl B _ l rfl [34] 1 _ rfl rfl rfl HO.out.1 (by have := HO.out.2.1; omega) HO.out.2.2 ?_))
  intro v1 w1 ho1 hg1
  have HI : Hid (ApI w B (.slice ao l.length cap) s all 0 v1 (l ++ [34]) w1) := ⟨ho1, hg1, Hall.out.symm, by have := HO.out.2.1; simp; omega, Nat.le_trans HO.out.2.2 hg1.size⟩
  clear ho1 hg1 HO Hall
  go_wp2
  go_loopw [0, 5] (fun x i wr => ∃ (k : Nat) (L : List Nat) (a2 : Option Addr) (n2 c2 : Nat), k ≤ s.size ∧ x = .slice a2 n2 c2 ∧ i = .int .i64 (k : Int) ∧ Hid (L.length = n2) ∧ Hid (ApI w B (.slice ao l.length cap) s all k x L wr)) (fun _ i _ => s.size - (intOf i).toNat)
  case atStart =>
    obtain ⟨a1, c1, rfl, -, -, -⟩ := HI.out.own.shape
    exact ⟨0, _, a1, _, c1, Nat.zero_le _, rfl, rfl, (nbs_length _).symm, HI⟩
  case round =>
    clear HI
    obtain ⟨k, L, a2, n2, c2, hk, rfl, rfl, HL, HI⟩ := hrel
    by_cases hlt : k < s.size
    · have HT := tooLong_calls n2 c2 a2
      by_cases h65 : (65536 : Int) < (n2 : Int)
      · rw [show decide ((65536 : Int) < (n2 : Int)) = true from decide_eq_true h65] at HT
        have HR : Hid (L = all) := by
          have h := HI.out.rest
          rw [chrsP_long (by rw [HL.out]; omega)] at h
          exact h
        clear h65
        go_wp2_with fail
        refine (HT _).mono ?_
        rintro e w2 ⟨rfl, rfl⟩
        go_wp2_with (at_builtin; go_must (refine append_lit w2 rfl (.tmp 25) (.tmp 26) rfl B _ L rfl [34] 1 _ rfl rfl rfl HI.out.own (by have := HI.out.small; omega) HI.out.base ?_))
        intro v5 w5 ho5 hg5
        go_wp2
        go_ret
        refine ⟨_, rfl, ?_, HI.out.grew.trans hg5⟩
        rw [← HR.out]
        exact ho5
      · rw [show decide ((65536 : Int) < (n2 : Int)) = false from decide_eq_false h65] at HT
        obtain ⟨c, Hc⟩ : ∃ c : Nat, Hid (s[k].toNat = c) := ⟨s[k].toNat, (Eq.refl _ : s[k].toNat = _)⟩
        have HA := appendCharacter_calls c (by rw [← Hc.out]; exact s[k].toNat_lt) a2 n2 c2 B L wr HL.out (by omega) (by have h := HI.out.own; exact h) HI.out.base
        have HR : Hid (chrsP (bytesN s (k + 1)) (L ++ chrP c) = all ∧ n2 ≤ 65536) := by
          have h := HI.out.rest
          rw [bytesN_cons hlt, chrsP_cons (by rw [HL.out]; omega), Hc.out] at h
          exact ⟨h, by omega⟩
        clear h65
        go_wp2_with fail
        refine (HT _).mono ?_
        rintro e w2 ⟨rfl, rfl⟩
        go_wp2_with fail
        rw [Hc.out]
        refine HA.mono ?_
        clear HA HT
        rintro e w3 ⟨v3, rfl, ho3, hg3⟩
        have HN : Hid (ApI w B (.slice ao l.length cap) s all (k + 1) v3 (L ++ chrP c) w3) := ⟨ho3, HI.out.grew.trans hg3, HR.out.1, by have := chrP_len c; have := HR.out.2; have := HL.out; rw [List.length_append]; omega, Nat.le_trans HI.out.base hg3.size⟩
        clear HI HR HL Hc ho3 hg3
        obtain ⟨a3, c3, rfl, -, -, -⟩ := HN.out.own.shape
        rw [nbs_length] at HN ⊢
        generalize hn3 : (L ++ chrP c).length = n3 at HN ⊢
        have Hn3 : Hid ((L ++ chrP c).length = n3) := hn3
        clear hn3
        have hs2 : (k : Int) + 1 ≤ 1152921504606846976 := by have := HS.out; omega
        go_wp2
        go_roundw
        case rel => exact ⟨k + 1, _, _, _, _, by omega, rfl, by go_num, Hn3, HN⟩
        case measure => simp [intOf]; omega
    · have HR : Hid (L = all) := by
        have h := HI.out.rest
        have hkn : k = s.size := by omega
        rw [hkn, bytesN_nil] at h
        exact h
      go_wp2_with (at_builtin; go_must (refine append_lit wr rfl (.tmp 25) (.tmp 26) rfl B _ L rfl [34] 1 _ rfl rfl rfl HI.out.own (by have := HI.out.small; omega) HI.out.base ?_))
      intro v5 w5 ho5 hg5
      go_wp2
      go_ret
      refine ⟨_, rfl, ?_, HI.out.grew.trans hg5⟩
      rw [← HR.out]
      exact ho5
end Go.Proofs.YtelhgjepjieocaaDoor

/- Layer 18 (json): a number's digits appended; nothing but the text's own block is written. -/
namespace Go.Proofs.YtelhgjepjieocaaDoor
open Go.RowKit Go.Lib Go.Sort
set_option linter.unusedVariables false

/-- append of a text's bytes to a slice of bytes that the call made itself. -/
theorem append_strG (w : World) {ops : Array Oper} {rest : List Oper} {o : Oper} {a : Act} {Q : Exit → Act → World → Prop} (hgd : o.guard = none) (sl x : Operand)
    (ho : o.op = .call { callee := .builtin .append, args := #[sl, x], argTypes := #[41, 9] })
    (B : Nat) (v : Value) (n : Nat) (l : List Value) (hn : l.length = n) (hs : a.eval sl = v) (hown : Ow w B 5 v l) (s : ByteArray) (hx : a.eval x = .string s)
    (hlen : n + s.size ≤ 140737488355328) (hB : B ≤ w.heap.size)
    (h : ∀ v' w', Ow w' B 5 v' (l ++ strCells s) → Grew w w' v v' → wpList Tryd.prog ops Q rest (a.put o.dst v') w') : wpList Tryd.prog ops Q (o :: rest) a w := by
  subst hn
  obtain ⟨i, hi, hz0, hz1, hz2⟩ := infoV info_u8
  refine wpList_plain hgd fun K hK => ?_
  obtain ⟨v', w', hr, h2, h3, h4⟩ := run_append_own_string (P := Tryd.prog) w B 41 9 o.type 5 i Tryd.underlying41 Tryd.underlying9 hi hz0 hz1 hz2 v l.length l hown s (by unfold maxLen; omega) hlen hB
  have hown2 : Ow w' B 5 v' (l ++ strCells s) := by
    unfold Ow
    rw [List.length_append, strCells_length]
    exact h2
  have hg : Grew w w' v v' := by
    refine ⟨h3, ?_⟩
    intro k hk
    rcases hown.2 with ⟨rfl, h0⟩ | ⟨g, cap, cur, rfl, hbg, hgg, hnc, hcm, hcs, htake⟩
    · by_cases hm : s.size = 0
      · have := h4.2 ⟨rfl, hm⟩; subst this; simp [Value.ownBlock] at hk
      · have hr2 := run_append_nil_string (P := Tryd.prog) w 41 9 o.type 5 i (.int .u8 0) Tryd.underlying41 Tryd.underlying9 hi hz0 s (by omega) (by omega) (by rw [hz2]; omega)
        rw [hr] at hr2
        injection hr2 with e1 e2
        subst e1
        simp [Value.ownBlock] at hk
        right; omega
    · have hcs' : cur.size = cap := by simpa using hcs
      by_cases hroom : l.length + s.size ≤ cap
      · have hr2 := run_append_room_string (P := Tryd.prog) w 41 9 o.type 5 i Tryd.underlying41 Tryd.underlying9 hi hz1 g l.length cap cur hgg s hroom (by omega)
        rw [hr] at hr2
        injection hr2 with e1 e2
        subst e1
        left; exact hk
      · have holds : ∀ j u, l[j]? = some u → w.cell? ((⟨g, 0, none⟩ : Addr).add j) = some u := World.ownsRow.cells (g := g) hown rfl
        have hr2 := run_append_grow_string (P := Tryd.prog) w 41 9 o.type 5 i (.int .u8 0) Tryd.underlying41 Tryd.underlying9 hi hz0 ⟨g, 0, none⟩ l.length cap l (by rw [hz1]; omega) holds s (by omega) (by omega) (by rw [hz2]; exact growslice_fits (by omega) (by omega))
        rw [hr] at hr2
        injection hr2 with e1 e2
        subst e1
        simp [Value.ownBlock] at hk
        right; omega
  unfold Oper.wp execOp
  simp only [ho, resolve, invoke, builtin, Sem.run_bind, Sem.run_pure, Result.andThen_ok, List.map_toArray, List.map_cons, List.map_nil, hs, hx, hr]
  exact hK _ _ (h v' w' hown2 hg)

/-- The text grew by these cells. -/
def TxC (w : World) (B : Nat) (v : Value) (l' : List Value) (e : Ending) (w' : World) : Prop := ∃ v', e = .returned v' ∧ Ow w' B 5 v' l' ∧ Grew w w' v v'
theorem smallI_calls (u : Nat) (hu : u < 100) (w : World) : Calls Tryd.prog 78 #[.int .i64 u] w fun e w' => e = .returned (.string ⟨(decDigits u).toArray⟩) ∧ w' = w := Any.internal_strconv_small { Tryd.laysM176 with } u hu w
theorem numDigits_calls (u : Nat) (h1 : 1 ≤ u) (h2 : u < 18446744073709551616) (w : World) (htab : TabIs Tryd.prog w "internal/strconv.uint64pow10" .u64 pow10Tab) :
    Calls Tryd.prog 79 #[.int .u64 u] w fun e w' => e = .returned (.int .i64 (nDigits u)) ∧ w' = w := Any.internal_strconv_numDigits { Tryd.laysM176 with } u h1 h2 w htab
theorem format10_calls (blk off cap u : Nat) (d : Array UInt8) (w : World) (hH : Holds (fun (b : UInt8) => Value.int .u8 (b.toNat : Int)) w blk off d) (hu : u < 10 ^ d.size) (hu64 : u < 18446744073709551616) (hsz : d.size < 4611686018427387904) :
    Calls Tryd.prog 80 #[.slice (some ⟨blk, off, none⟩) d.size cap, .int .u64 u] w fun e w' =>
      e = .returned (.tuple #[]) ∧ ∃ (n v' : Nat) (dk : Array UInt8), w' = (putRow (fun (b : UInt8) => Value.int .u8 (b.toNat : Int)) w blk off dk).drewN n ∧ FmtInv d.size u 0 v' dk := Any.internal_strconv_formatBase10 { Tryd.laysM176 with } blk off cap u d w hH hu hu64 hsz
theorem dec_small {u : Nat} (hu : u < 100) : (decDigits u).length ≤ 20 := by
  rw [decDigits_length]
  by_cases h10 : u < 10
  · rw [nDigits_small h10]; omega
  · rw [nDigits_big h10, nDigits_small (show u / 10 < 10 by omega)]; omega

set_option maxRecDepth 100000 in
set_option maxHeartbeats 4000000 in
theorem auS_calls (u : Nat) (hu : u < 100) (B n : Nat) (v : Value) (l : List Value) (w : World) (hn : l.length = n) (hown : Ow w B 5 v l) (hB : B ≤ w.heap.size) (hlim : n ≤ 140737488355000) :
    Calls Tryd.prog 71 #[v, .int .u64 u, .int .i64 10] w (TxC w B v (l ++ byteCells (decDigits u))) := by
  have HS := smallI_calls u hu
  have HO : Hid (Ow w B 5 v l ∧ l.length = n ∧ n ≤ 140737488355000 ∧ B ≤ w.heap.size) := ⟨hown, hn, hlim, hB⟩
  obtain ⟨s, Hs⟩ : ∃ s : ByteArray, Hid (s = ⟨(decDigits u).toArray⟩) := ⟨⟨(decDigits u).toArray⟩, rfl⟩
  have HE : Hid (s.size ≤ 20 ∧ strCells s = byteCells (decDigits u)) := by
    rw [Hs.out]
    exact ⟨by have := dec_small hu; simpa [ByteArray.size] using this, strCells_toArray _⟩
  rw [← Hs.out] at HS
  have iu : (u : Int) < 100 := by omega
  clear hown hn hlim hB Hs
  go_enter Tryd.func71, Tryd.ntmps71
  go_wp2_with fail
  refine (HS _).mono ?_
  rintro e w1 ⟨rfl, rfl⟩
  go_wp2_with (at_builtin; refine append_strG w1 rfl _ _ rfl B _ n l HO.out.2.1 rfl HO.out.1 s rfl (by have := HO.out.2.2.1; have := HE.out.1; omega) HO.out.2.2.2 ?_)
  intro v5 w5 ho5 hg5
  rw [HE.out.2] at ho5
  go_wp2
  go_ret
  exact ⟨_, rfl, ho5, hg5⟩

theorem hsl24 (u : Nat) (hu : nDigits u ≤ 24) (g : Nat) : ∀ W, (Instr.sliceAt 109 (.pointer (some ⟨g, 0, none⟩)) none (some (.int .i64 (nDigits u : Int))) none).run Tryd.prog W = .ok (.slice (some ⟨g, 0, none⟩) (nDigits u) 24) W := fun W => by
  have hal : Tryd.prog.arrayLen 109 = 24 := by simp [Program.arrayLen, Tryd.underlying109]
  rw [run_sliceAt_array_h W 109 ⟨g, 0, none⟩ (by simp [Program.arrayLen, Program.elem, Tryd.underlying109]) .i64 (nDigits u : Int) (by omega) (by rw [hal]; omega)]
  go_simp
set_option maxRecDepth 100000 in
set_option maxHeartbeats 4000000 in
theorem auB_calls (u : Nat) (hu : 100 ≤ u) (hu64 : u < 18446744073709551616) (B n : Nat) (v : Value) (l : List Value) (w : World) (hn : l.length = n) (hown : Ow w B 5 v l) (hB : B ≤ w.heap.size) (hlim : n ≤ 140737488355000)
    (htab : TabIs Tryd.prog w "internal/strconv.uint64pow10" .u64 pow10Tab) :
    Calls Tryd.prog 71 #[v, .int .u64 u, .int .i64 10] w (TxC w B v (l ++ byteCells (decDigits u))) := by
  have hu1 : 1 ≤ u := by omega
  have hnd20 : nDigits u ≤ 20 := by have := numDigits_eq u hu1 hu64; split at this <;> omega
  have hsl := hsl24 u (by omega) w.heap.size
  have hH0 := holds_zero0 w 109 (nDigits u) (by omega)
  have HF := format10_calls w.heap.size 0 24 u (Array.replicate (nDigits u) 0) (w.alloc (.cells zeros24 109)) hH0 (by rw [Array.size_replicate]; exact lt_pow_nDigits u) hu64 (by rw [Array.size_replicate]; omega)
  rw [Array.size_replicate] at HF
  have HN := numDigits_calls u hu1 hu64 _ (tabIs_alloc htab (.cells zeros24 109))
  have HH0 := hid hH0
  have HO : Hid (Ow w B 5 v l ∧ l.length = n ∧ n ≤ 140737488355000 ∧ B ≤ w.heap.size ∧ nDigits u ≤ 20) := ⟨hown, hn, hlim, hB, hnd20⟩
  have iu : (100 : Int) ≤ (u : Int) := by omega
  clear hown hn hlim hB hH0 htab
  go_enter Tryd.func71, Tryd.ntmps71
  go_wp2_with fail
  refine HN.mono ?_
  rintro e w' ⟨rfl, rfl⟩
  clear HN
  go_wp2_with fail
  refine HF.mono ?_
  clear HF
  rintro e w' ⟨rfl, k, v', dk, rfl, hF⟩
  have hcells : ∀ j u', (byteCells (decDigits u))[j]? = some u' → ((putRow (fun (b : UInt8) => Value.int .u8 (b.toNat : Int)) (w.alloc (.cells zeros24 109)) w.heap.size 0 dk).drewN k).cell? ((⟨w.heap.size, 0, none⟩ : Addr).add j) = some u' := by
    intro j u' hj
    have hjl : j < (decDigits u).length := by
      have h5 := (List.getElem?_eq_some_iff.1 hj).1
      rwa [byteCells_length] at h5
    have e5 : (byteCells (decDigits u))[j]? = some (Value.int .u8 ((decDigits u)[j].toNat : Int)) := by simp [byteCells, hjl]
    rw [e5] at hj
    cases hj
    rw [row_is_numeral hF j hjl, add_plain, World.cell?_drewN]
    exact cell?_putRow (fun (b : UInt8) => Value.int .u8 (b.toNat : Int)) _ w.heap.size 0 _ dk HH0.out (by rw [hF.size, Array.size_replicate]) j (by rw [hF.size]; rw [decDigits_length] at hjl; exact hjl)
  obtain ⟨os, eo⟩ := fin_at w (.cells zeros24 109) dk k 0
  have hb2 : Below w.heap.size w ((putRow (fun (b : UInt8) => Value.int .u8 (b.toNat : Int)) (w.alloc (.cells zeros24 109)) w.heap.size 0 dk).drewN k) := by rw [eo]; exact below_grow w.heap.size w (Nat.le_refl _) k os
  obtain ⟨g, Hg⟩ : ∃ g, Hid (g = w.heap.size) := ⟨w.heap.size, (Eq.refl _ : w.heap.size = _)⟩
  generalize (putRow (fun (b : UInt8) => Value.int .u8 (b.toNat : Int)) (w.alloc (.cells zeros24 109)) w.heap.size 0 dk).drewN k = W2 at hcells hb2 ⊢
  rw [← Hg.out] at hcells hsl ⊢
  have HW : Hid (Ow W2 B 5 v l ∧ Below w.heap.size w W2 ∧ ∀ j u', (byteCells (decDigits u))[j]? = some u' → W2.cell? ((⟨g, 0, none⟩ : Addr).add j) = some u') := ⟨HO.out.1.below hb2, hb2, hcells⟩
  clear eo HH0 hcells hb2 hF
  obtain ⟨i0, hi, hz0, hz1, hz2⟩ := infoV info_u8
  go_wp2_with (at_builtin; refine wpList_append_grew _ rfl _ _ 41 rfl B 5 i0 (.int .u8 0) 1 1 Tryd.underlying41 hi hz0 hz1 hz2 rfl (by decide) _ n l rfl (by rw [← HO.out.2.1]; exact HW.out.1) ⟨g, 0, none⟩ (nDigits u) 24 (byteCells (decDigits u)) rfl (by rw [byteCells_length, decDigits_length, Nat.mul_one]) HW.out.2.2 (by intro u' hu'; simp only [byteCells, List.mem_map] at hu'; obtain ⟨b, _, rfl⟩ := hu'; rfl) (by have := HO.out.2.2; unfold maxLen; omega) (by have := HO.out.2.2; omega) (Nat.le_trans HO.out.2.2.2.1 HW.out.2.1.size) ?_)
  intro v2 w3 hown' hgrow _
  have HX : Hid (Ow w3 B 5 v2 (l ++ byteCells (decDigits u)) ∧ Grew w w3 v v2) := by
    refine ⟨?_, ((Grew.refl w v).below HW.out.2.1).trans hgrow⟩
    unfold Ow
    rw [List.length_append, HO.out.2.1, byteCells_length, decDigits_length]
    exact hown'
  clear hown' hgrow
  go_wp2
  go_ret
  exact ⟨_, rfl, HX.out.1, HX.out.2⟩

theorem au_calls (u : Nat) (hu64 : u < 18446744073709551616) (B n : Nat) (v : Value) (l : List Value) (w : World) (hn : l.length = n) (hown : Ow w B 5 v l) (hB : B ≤ w.heap.size) (hlim : n ≤ 140737488355000)
    (htab : TabIs Tryd.prog w "internal/strconv.uint64pow10" .u64 pow10Tab) : Calls Tryd.prog 71 #[v, .int .u64 u, .int .i64 10] w (TxC w B v (l ++ byteCells (decDigits u))) := by
  by_cases h : u < 100
  · exact auS_calls u h B n v l w hn hown hB hlim
  · exact auB_calls u (by omega) hu64 B n v l w hn hown hB hlim htab

set_option maxRecDepth 100000 in
set_option maxHeartbeats 4000000 in
theorem aiI_calls (i : Int) (h0 : -9223372036854775808 ≤ i) (h1 : i ≤ 9223372036854775807) (B n : Nat) (v : Value) (l : List Value) (w : World) (hn : l.length = n) (hown : Ow w B 5 v l) (hB : B ≤ w.heap.size) (hlim : n ≤ 140737488354000)
    (htab : TabBelow Tryd.prog B w "internal/strconv.uint64pow10" .u64 pow10Tab) : Calls Tryd.prog 63 #[v, .int .i64 i, .int .i64 10] w (TxC w B v (l ++ byteCells (itoa i))) := by
  have HO : Hid (Ow w B 5 v l ∧ l.length = n ∧ n ≤ 140737488354000 ∧ B ≤ w.heap.size ∧ TabBelow Tryd.prog B w "internal/strconv.uint64pow10" .u64 pow10Tab) := ⟨hown, hn, hlim, hB, htab⟩
  clear hown hn hlim hB htab
  by_cases hneg : i < 0
  · obtain ⟨u, rfl⟩ : ∃ u : Nat, i = -(u : Int) := ⟨i.natAbs, by omega⟩
    have hu1 : 1 ≤ u := by omega
    have hu64 : u < 18446744073709551616 := by omega
    have hwr : IntKind.u64.wrap (-IntKind.u64.wrap (-(u : Int))) = (u : Int) := by rw [IntKind.wrap_u64, IntKind.wrap_u64]; omega
    rw [itoa_neg u hu1]
    have HU := fun W v1 ho hB2 ht => au_calls u hu64 B (n + 1) v1 (l ++ [Value.int .u8 45]) W (by simp [HO.out.2.1]) ho hB2 (by have := HO.out.2.2.1; omega) ht
    obtain ⟨i0, hi, hz0, hz1, hz2⟩ := infoV info_u8
    go_enter Tryd.func63, Tryd.ntmps63
    go_wp2_with (at_builtin; refine wpList_append_grew _ rfl _ _ 41 rfl B 5 i0 (.int .u8 0) 1 1 Tryd.underlying41 hi hz0 hz1 hz2 rfl (by decide) _ n l rfl (by rw [← HO.out.2.1]; exact World.ownsRow.alloc HO.out.1 _) ⟨w.heap.size, 0, none⟩ 1 1 [Value.int .u8 45] rfl rfl (cells_new w [Value.int .u8 45] _) (by intro u' hu'; simp at hu'; subst hu'; rfl) (by have := HO.out.2.2.1; unfold maxLen; omega) (by have := HO.out.2.2.1; omega) (by have := HO.out.2.2.2.1; simp; omega) ?_)
    intro v1 w1 hown1 hgrow _
    have HX : Hid (Ow w1 B 5 v1 (l ++ [Value.int .u8 45]) ∧ Grew w w1 v v1) := by
      refine ⟨?_, hgrow.ofAlloc⟩
      unfold Ow
      rw [List.length_append, HO.out.2.1]
      exact hown1
    have HC := HU w1 v1 HX.out.1 (Nat.le_trans HO.out.2.2.2.1 HX.out.2.size) (HO.out.2.2.2.2 w1 (HX.out.2.toBelow HO.out.2.2.2.1 (fun k hk => (World.ownsRow.lt HO.out.1 k hk).1)))
    clear hown1 hgrow HU
    go_wp2_with fail
    refine HC.mono ?_
    clear HC
    rintro e w2 ⟨v2, rfl, ho2, hg2⟩
    go_wp2
    go_ret
    refine ⟨_, rfl, ?_, HX.out.2.trans hg2⟩
    have e2 : l ++ byteCells (45 :: decDigits u) = l ++ [Value.int .u8 45] ++ byteCells (decDigits u) := by simp [byteCells]
    rw [e2]
    exact ho2
  · obtain ⟨u, rfl⟩ : ∃ u : Nat, i = u := ⟨i.toNat, by omega⟩
    have hu64 : u < 18446744073709551616 := by omega
    rw [itoa_nonneg]
    have HC := au_calls u hu64 B n v l w HO.out.2.1 HO.out.1 HO.out.2.2.2.1 (by have := HO.out.2.2.1; omega) HO.out.2.2.2.2.here
    go_enter Tryd.func63, Tryd.ntmps63
    go_wp2_with fail
    refine HC.mono ?_
    clear HC
    rintro e w2 ⟨v2, rfl, ho2, hg2⟩
    go_wp2
    go_ret
    exact ⟨_, rfl, ho2, hg2⟩

/-- The digits of a number. -/
def numD (n : Int) : List Nat := (itoa n).map UInt8.toNat
theorem nbs_numD (n : Int) : nbs (numD n) = byteCells (itoa n) := by simp [nbs, numD, byteCells]
set_option maxRecDepth 100000 in
theorem appendInt_calls (i : Int) (h0 : -9223372036854775808 ≤ i) (h1 : i ≤ 9223372036854775807) (B n : Nat) (v : Value) (l : List Nat) (w : World) (hn : l.length = n) (hown : Ow w B 5 v (nbs l)) (hB : B ≤ w.heap.size) (hlim : n ≤ 140737488354000)
    (htab : TabBelow Tryd.prog B w "internal/strconv.uint64pow10" .u64 pow10Tab) : Calls Tryd.prog 49 #[v, .int .i64 i, .int .i64 10] w (TxC w B v (nbs (l ++ numD i))) := by
  have HC := aiI_calls i h0 h1 B n v (nbs l) w (by rw [nbs_length]; exact hn) hown hB hlim htab
  rw [nbs_append, nbs_numD]
  clear hown htab
  go_enter Tryd.func49, Tryd.ntmps49
  go_wp2_with fail
  refine HC.mono ?_
  clear HC
  rintro e w2 ⟨v2, rfl, ho2, hg2⟩
  go_wp2
  go_ret
  exact ⟨_, rfl, ho2, hg2⟩
end Go.Proofs.YtelhgjepjieocaaDoor
