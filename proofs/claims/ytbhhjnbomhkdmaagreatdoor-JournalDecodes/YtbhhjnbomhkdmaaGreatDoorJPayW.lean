import Derived.Test.YtbhhjnbomhkdmaaGreatDoorJDOpT
import Derived.Test.YtbhhjnbomhkdmaaGreatDoorJDOp1
import Derived.Test.YtbhhjnbomhkdmaaGreatDoorJDOp2
import Derived.Test.YtbhhjnbomhkdmaaGreatDoorJDOp3
import Derived.Test.YtbhhjnbomhkdmaaGreatDoorJDOp4
import Derived.Test.YtbhhjnbomhkdmaaGreatDoorJDOp5
import Derived.Test.YtbhhjnbomhkdmaaGreatDoorJDOp6
import Derived.Test.YtbhhjnbomhkdmaaGreatDoorJPayOf
import Derived.Test.YtbhhjnbomhkdmaaGreatDoorJEqN
import Derived.Test.YtbhhjnbomhkdmaaGreatDoorJReadP
import Derived.Test.YtbhhjnbomhkdmaaGreatDoorJStep
/- Layer 13 (journal): the document's opAt, of whatever bytes; what its Read reads, plain. -/
namespace Go.Proofs.YtbhhjnbomhkdmaaGreatDoor
open Go.RowKit
set_option linter.unusedVariables false

theorem opAt_calls (xb xo cap : Nat) (l : List UInt8) (p : Nat) (w : World) (hl : l.length ≤ 131072) (hcap : l.length < cap) (hcm : cap ≤ maxLen) (hp : p ≤ l.length) (h : BAt w (some ⟨xb, xo, none⟩) l) :
  Calls Tryz.prog 34 #[.slice (some ⟨xb, xo, none⟩) l.length cap, .int .i64 (p : Nat)] w (OpAtA w l p) := by
 rcases Nat.lt_or_ge l.length (p + 2) with hs | hs
 ·exact opAt_short xb xo cap l p w hl hcap hcm hp h hs
 obtain ⟨c0, hg0⟩ : ∃ c, l[p]? = some c := ⟨_, List.getElem?_eq_getElem (by omega)⟩
 obtain ⟨c1, hg1⟩ : ∃ c, l[p + 1]? = some c := ⟨_, List.getElem?_eq_getElem (by omega)⟩
 by_cases hcs : c1 = 1
 ·rcases Nat.lt_or_ge l.length (p + 10) with hs2 | hs2
  ·exact opAt_short2 xb xo cap l p w hl hcap hcm hp h hs c0 c1 hg0 hg1 hcs hs2
  ·by_cases hkb : c0.toNat < 1 ∨ 6 < c0.toNat
   ·exact opAt_kindT xb xo cap l p w hl hcap hcm hp h hs c0 c1 hg0 hg1 hcs hs2 hkb
   ·have hk : c0.toNat = 1 ∨ c0.toNat = 2 ∨ c0.toNat = 3 ∨ c0.toNat = 4 ∨ c0.toNat = 5 ∨ c0.toNat = 6 := by omega
    rcases hk with hk | hk | hk | hk | hk | hk
    ·exact opAt_nodeT xb xo cap l p w hl hcap hcm hp h hs c0 c1 hg0 hg1 hcs hs2 hk
    ·exact opAt_svcT xb xo cap l p w hl hcap hcm hp h hs c0 c1 hg0 hg1 hcs hs2 hk
    ·exact opAt_chkT xb xo cap l p w hl hcap hcm hp h hs c0 c1 hg0 hg1 hcs hs2 hk
    ·exact opAt_dnodeT xb xo cap l p w hl hcap hcm hp h hs c0 c1 hg0 hg1 hcs hs2 hk
    ·exact opAt_dsvcT xb xo cap l p w hl hcap hcm hp h hs c0 c1 hg0 hg1 hcs hs2 hk
    ·exact opAt_dchkT xb xo cap l p w hl hcap hcm hp h hs c0 c1 hg0 hg1 hcs hs2 hk
 ·by_cases hkb : c0.toNat < 1 ∨ 6 < c0.toNat
  ·exact opAt_kindF xb xo cap l p w hl hcap hcm hp h hs c0 c1 hg0 hg1 hcs hkb
  ·have hk : c0.toNat = 1 ∨ c0.toNat = 2 ∨ c0.toNat = 3 ∨ c0.toNat = 4 ∨ c0.toNat = 5 ∨ c0.toNat = 6 := by omega
   rcases hk with hk | hk | hk | hk | hk | hk
   ·exact opAt_nodeF xb xo cap l p w hl hcap hcm hp h hs c0 c1 hg0 hg1 hcs hk
   ·exact opAt_svcF xb xo cap l p w hl hcap hcm hp h hs c0 c1 hg0 hg1 hcs hk
   ·exact opAt_chkF xb xo cap l p w hl hcap hcm hp h hs c0 c1 hg0 hg1 hcs hk
   ·exact opAt_dnodeF xb xo cap l p w hl hcap hcm hp h hs c0 c1 hg0 hg1 hcs hk
   ·exact opAt_dsvcF xb xo cap l p w hl hcap hcm hp h hs c0 c1 hg0 hg1 hcs hk
   ·exact opAt_dchkF xb xo cap l p w hl hcap hcm hp h hs c0 c1 hg0 hg1 hcs hk

/-- The operations that the document's Read reads, one behind the other, and what is left. -/
def rsP : Nat → List UInt8 → Option (List Opp × List UInt8)
 | 0, r => some ([], r)
 | n + 1, r => match rsP n r with
  | none => none
  | some (os, r') => match raP r' with
   | none => none
   | some (o, r'') => some (os ++ [o], r'')
theorem rsP_one {n : Nat} {r r' r'' : List UInt8} {os : List Opp} {o : Opp} (h : rsP n r = some (os, r')) (h2 : raP r' = some (o, r'')) : rsP (n + 1) r = some (os ++ [o], r'') := by
 simp only [rsP, h, h2]
theorem rsP_no {n : Nat} {r r' : List UInt8} {os : List Opp} (h : rsP n r = some (os, r')) (h2 : raP r' = none) : rsP (n + 1) r = none := by
 simp only [rsP, h, h2]
theorem rsP_stays {n : Nat} {r : List UInt8} (h : rsP n r = none) : ∀ d, rsP (n + d) r = none
 | 0 => h
 | d + 1 => by
  have := rsP_stays h d
  show rsP (n + d + 1) r = none
  simp only [rsP, this]
theorem rsP_app : ∀ (n : Nat) (os : List Opp) (r : List UInt8), os.length = n → (∀ o ∈ os, Snd o) → (∀ o ∈ os, 0 ≤ o.want ∧ o.want ≤ 18446744073709551615) → rsP n (opsB os ++ r) = some (os, r) := by
 intro n
 induction n with
 | zero =>
  intro os r hl _ _
  obtain rfl := List.eq_nil_of_length_eq_zero hl
  simp [rsP, opsB]
 | succ n ih =>
  intro os r hl h hr
  rcases List.eq_nil_or_concat os with rfl | ⟨us, t, rfl⟩
  ·simp at hl
  ·rw [List.concat_eq_append] at *
   have hu : us.length = n := by simp at hl; omega
   have e : opsB (us ++ [t]) ++ r = opsB us ++ (opB t ++ r) := by simp [opsB]
   have h1 := ih us (opB t ++ r) hu (fun x hx => h x (List.mem_append_left _ hx)) (fun x hx => hr x (List.mem_append_left _ hx))
   have h2 := raP_app (h t (by simp)) (hr t (by simp)) r
   rw [e]
   exact rsP_one h1 h2
theorem rsP_len : ∀ (n : Nat) {r r' : List UInt8} {os : List Opp}, rsP n r = some (os, r') → os.length = n ∧ ∀ o ∈ os, o.rng ∧ o.small ∧ o.svc.tags.length ≤ 255 ∧ o.node.addr.size ≤ 255
 | 0, r, r', os, h => by
  simp only [rsP, Option.some.injEq, Prod.mk.injEq] at h
  obtain ⟨rfl, _⟩ := h
  exact ⟨rfl, fun o ho => by cases ho⟩
 | n + 1, r, r', os, h => by
  cases h1 : rsP n r with
  | none => simp only [rsP, h1] at h; cases h
  | some x =>
   obtain ⟨us, s⟩ := x
   cases h2 : raP s with
   | none => simp only [rsP, h1, h2] at h; cases h
   | some y =>
    obtain ⟨o, s'⟩ := y
    simp only [rsP, h1, h2, Option.some.injEq, Prod.mk.injEq] at h
    obtain ⟨rfl, _⟩ := h
    obtain ⟨g1, g2⟩ := rsP_len n h1
    refine ⟨by simp [g1], fun x hx => ?_⟩
    rcases List.mem_append.1 hx with hx | hx
    ·exact g2 x hx
    ·rw [List.mem_singleton] at hx
     subst hx
     exact raP_small h2
/-- What is taken has its operations where the document's Read looks. -/
theorem rd_taken {p : List UInt8} (h : readOk p = true) : 9 ≤ p.length ∧ unbig (p.take 8) = readI p ∧ rsP (p.getD 8 0).toNat (p.drop 9) = some ((readO p).1, []) := by
 obtain ⟨e, hs⟩ := read_conv h
 obtain ⟨g1, g2, g3⟩ := soundB_all hs
 have hr : ∀ o ∈ (readO p).1, 0 ≤ o.want ∧ o.want ≤ 18446744073709551615 := fun o ho => by
  have := (opsP_ok (readN p) (tkS 1 (tkS 8 (p, false)))).1 o ho
  exact ⟨this.2.2.1, this.2.2.2⟩
 have hI : readI p < 256 ^ 8 := unbig_le _ 8 (tkB_len 8 _)
 have e2 : p = big 8 (readI p : Nat) ++ (byteOf ((readO p).1.length : Int) :: opsB (readO p).1) := by
  have : payB (readI p : Nat) (readO p).1 = big 8 (readI p : Nat) ++ (byteOf ((readO p).1.length : Int) :: opsB (readO p).1) := by simp [payB]
  rw [← this, e]
 have hl := big_length 8 (readI p : Nat)
 have hb := byteOf_nat (readO p).1.length (by omega)
 have hc := rsP_app (readO p).1.length (readO p).1 [] rfl g3 hr
 rw [List.append_nil] at hc
 generalize (readO p).1 = os at *
 generalize readI p = i at *
 subst e2
 refine ⟨by rw [List.length_append, hl, List.length_cons]; omega, ?_, ?_⟩
 ·rw [List.take_left' hl]
  have hI2 : i < 18446744073709551616 := hI
  have := unbig_big 8 (i : Nat) (by omega) (by show (i : Int) < 18446744073709551616; omega)
  exact Int.ofNat.inj this
 ·have h1 : (big 8 (i : Nat) ++ (byteOf (os.length : Int) :: opsB os)).getD 8 0 = byteOf (os.length : Int) := by
   rw [List.getD, List.getElem?_append_right (by omega), hl]; rfl
  have h2 : (big 8 (i : Nat) ++ (byteOf (os.length : Int) :: opsB os)).drop 9 = opsB os := by
   rw [List.drop_append, hl, List.drop_of_length_le (by omega)]; rfl
  rw [h1, h2, hb]
  exact hc
theorem rd_short {p : List UInt8} (h : p.length < 9) : readOk p = false := by
 cases hk : readOk p with
 | false => rfl
 | true => have := (rd_taken hk).1; omega
theorem rd_none {p : List UInt8} (h : rsP (p.getD 8 0).toNat (p.drop 9) = none) : readOk p = false := by
 cases hk : readOk p with
 | false => rfl
 | true => have := (rd_taken hk).2.2; rw [h] at this; cases this
theorem rd_odd {p r : List UInt8} {os : List Opp} (h : rsP (p.getD 8 0).toNat (p.drop 9) = some (os, r)) (hs : soundB os = false) : readOk p = false := by
 cases hk : readOk p with
 | false => rfl
 | true =>
  have h1 := (rd_taken hk).2.2
  rw [h] at h1
  have h2 := (read_conv hk).2
  rw [← (Prod.mk.inj (Option.some.inj h1)).1, hs] at h2
  cases h2
theorem rd_other {p r : List UInt8} {os : List Opp} (h : rsP (p.getD 8 0).toNat (p.drop 9) = some (os, r)) (hn : payB (unbig (p.take 8) : Nat) os ≠ p) : readOk p = false := by
 cases hk : readOk p with
 | false => rfl
 | true =>
  obtain ⟨_, h0, h1⟩ := rd_taken hk
  rw [h] at h1
  have h2 := (read_conv hk).1
  rw [← (Prod.mk.inj (Option.some.inj h1)).1, ← h0] at h2
  exact absurd h2 hn
theorem rd_same {p r : List UInt8} {os : List Opp} (h9 : 9 ≤ p.length) (h : rsP (p.getD 8 0).toNat (p.drop 9) = some (os, r)) (hs : soundB os = true) (hn : payB (unbig (p.take 8) : Nat) os = p) : readOk p = true ∧ (readO p).1 = os ∧ readI p = unbig (p.take 8) := by
 have hr : ∀ o ∈ os, 0 ≤ o.want ∧ o.want ≤ 18446744073709551615 := fun o ho => by
  have := ((rsP_len _ h).2 o ho).1
  exact ⟨this.1, this.2⟩
 have hu : unbig (p.take 8) < 256 ^ 8 := unbig_le _ 8 (by simp; omega)
 have hu2 : unbig (p.take 8) < 18446744073709551616 := hu
 obtain ⟨b1, b2, b3⟩ := read_back (i := (unbig (p.take 8) : Nat)) (by omega) (by omega) hs hr
 rw [hn] at b1 b2 b3
 exact ⟨b3, b2, by omega⟩
end Go.Proofs.YtbhhjnbomhkdmaaGreatDoor

/- Layer 13 (journal): the document's Big. -/
namespace Go.Proofs.YtbhhjnbomhkdmaaGreatDoor
open Go.RowKit
set_option linter.unusedVariables false

theorem made_u8 (n : Nat) : (madeCells (Value.int .u8 0).cells n).toList = bs (List.replicate n (0 : UInt8)) := by
 apply List.ext_getElem
 ·simp [madeCells, bs]
 ·intro i h1 h2
  simp [madeCells, bs, Value.cells, Nat.mod_one]
theorem set_rep (k : Nat) (c : UInt8) (suf : List UInt8) : (List.replicate (k + 1) 0 ++ suf).set k c = List.replicate k 0 ++ (c :: suf) := by
 rw [List.replicate_succ', List.append_assoc, List.set_append_right _ _ (by simp)]
 simp
set_option maxRecDepth 100000 in
set_option maxHeartbeats 1000000 in
theorem rbig_calls (X : Int) (n : Nat) (w : World) (h0 : 0 ≤ X) (h1 : X ≤ 18446744073709551615) (hn : n = 1 ∨ n = 2 ∨ n = 4 ∨ n = 8) :
  Calls Tryz.prog 19 #[.int .u64 X, .int .i64 (n : Int)] w fun e w' => ∃ c, e = .returned (.slice (some ⟨w.heap.size, 0, none⟩) n c) ∧ Own w' w.heap.size (.slice (some ⟨w.heap.size, 0, none⟩) n c) (big n X) ∧ Below w.heap.size w w' := by
 have hn8 : n ≤ 8 := by omega
 have hn1 : 1 ≤ n := by omega
 obtain ⟨i0, hi, hb⟩ := Option.map_eq_some_iff.1 info_u8
 simp only [Prod.mk.injEq] at hb
 obtain ⟨hz0, hz1, hz2⟩ := hb
 obtain ⟨M, HM⟩ : ∃ M, Hid (M = madeCells (Value.int .u8 0).cells n) := ⟨_, rfl⟩
 have hmake : (Instr.makeSlice 22 (.int .i64 (n : Int)) (.int .i64 (n : Int))).run Tryz.prog w = .ok (.slice (some ⟨w.heap.size, 0, none⟩) n n) (w.alloc (.cells M 5)) := by
  have h := run_make (P := Tryz.prog) w 22 5 i0 (.int .u8 0) Tryz.underlying22 hi hz0 .i64 .i64 (n : Int) (n : Int) (by omega) (by omega) (by rw [hz2]; omega) (by omega)
  rw [HM.out]
  simpa [hz1] using h
 have HO : Hid (Own (w.alloc (.cells M 5)) w.heap.size (.slice (some ⟨w.heap.size, 0, none⟩) n n) (List.replicate n 0)) := by
  have hMl : M.toList = bs (List.replicate n (0 : UInt8)) := by rw [HM.out]; exact made_u8 n
  have hMs : M.size = n := by rw [← Array.length_toList, hMl, bs_length, List.length_replicate]
  refine ⟨by rw [bs_length, Nat.mul_one], .inr ⟨w.heap.size, n, M, by rw [List.length_replicate], Nat.le_refl _, heap_alloc_new w _, by rw [List.length_replicate]; exact Nat.le_refl _, by unfold maxLen; omega, by rw [hMs, Nat.mul_one], ?_⟩⟩
  rw [List.take_of_length_le (by rw [Array.length_toList, hMs, List.length_replicate]; omega), hMl]
 clear HM hi hz0 hz1 hz2 hn
 obtain ⟨w1, Hw1⟩ : ∃ x, Hid (x = w.alloc (.cells M 5)) := ⟨_, rfl⟩
 have HB : Hid (Below w.heap.size w w1) := by rw [Hw1.out]; exact below_new w _
 rw [← Hw1.out] at hmake HO
 clear Hw1
 go_enter Tryz.func19, Tryz.ntmps19
 go_wp2
 clear hmake
 go_loopw [0, 6] (fun x i wr => ∃ (k : Nat) (q : Int) (suf : List UInt8), k ≤ n ∧ i = .int .i64 ((k : Int) - 1) ∧ x = .int .u64 q ∧ 0 ≤ q ∧ q ≤ 18446744073709551615 ∧ Hid (suf.length = n - k) ∧ Hid (big n X = big k q ++ suf) ∧ Hid (Own wr w.heap.size (.slice (some ⟨w.heap.size, 0, none⟩) n n) (List.replicate k 0 ++ suf)) ∧ Hid (Below w.heap.size w wr)) (fun _ i _ => (intOf i + 1).toNat)
 case atStart => exact ⟨n, X, [], Nat.le_refl _, rfl, rfl, h0, h1, by simp [Hid], by simp [Hid], by rw [List.append_nil]; exact HO, HB⟩
 case round =>
  obtain ⟨k, q, suf, hk, rfl, rfl, hq0, hq1, HSL, HE, HO2, HB2⟩ := hrel
  by_cases hlt : 0 < k
  ·obtain ⟨j, rfl⟩ : ∃ j, k = j + 1 := ⟨k - 1, by omega⟩
   have ej : (((j + 1 : Nat) : Int) - 1) = (j : Int) := by omega
   rw [ej]
   have hjn : j < n := by omega
   have HL : Hid ((List.replicate (j + 1) 0 ++ suf).length = n) := by
    show _ = _
    rw [List.length_append, List.length_replicate, HSL.out]
    omega
   obtain ⟨c0, f0⟩ := HO2.out.at HL.out j hjn
   have hw : IntKind.u8.wrap (q % 256) = ((byteOf q).toNat : Int) := by
    rw [byteOf_val]
    show (q % 256) % 256 = _
    omega
   have HO3 : Hid (Own (wr.setCell ⟨w.heap.size, j, none⟩ (.int .u8 ((byteOf q).toNat : Int))) w.heap.size (.slice (some ⟨w.heap.size, 0, none⟩) n n) (List.replicate j 0 ++ (byteOf q :: suf))) := by
    have := HO2.out.stored HL.out j (byteOf q)
    rw [set_rep] at this
    exact this
   have HB3 : Hid (Below w.heap.size w (wr.setCell ⟨w.heap.size, j, none⟩ (.int .u8 ((byteOf q).toNat : Int)))) := HB2.out.setCell (p := ⟨w.heap.size, j, none⟩) (Nat.le_refl _) _
   have HE3 : Hid (big n X = big j (q / 256) ++ (byteOf q :: suf)) := by
    show _ = _
    rw [HE.out]
    simp [big]
   go_wp2
   go_roundw
   case rel => exact ⟨j, q / 256, byteOf q :: suf, by omega, by go_num, by go_num, by omega, by omega, by show _ = _; rw [List.length_cons, HSL.out]; omega, HE3, HO3, HB3⟩
   case measure => simp [intOf]
  ·obtain rfl : k = 0 := by omega
   have HF : Hid (Own wr w.heap.size (.slice (some ⟨w.heap.size, 0, none⟩) n n) (big n X)) := by
    have := HO2.out
    rw [HE.out]
    exact this
   go_wp2
   go_ret
   exact ⟨n, rfl, HF.out, HB2.out⟩
end Go.Proofs.YtbhhjnbomhkdmaaGreatDoor

/- Layer 13 (journal): writePayload. -/
namespace Go.Proofs.YtbhhjnbomhkdmaaGreatDoor
open Go.RowKit
set_option linter.unusedVariables false


set_option maxRecDepth 100000 in
set_option maxHeartbeats 2000000 in
theorem writePayload_calls (i : Int) (ao : Option Addr) (c : Nat) (l : List OV) (w : World) (h0 : 0 ≤ i) (h1 : i ≤ 18446744073709551615) (hs : soundB (ops l) = true) (hr : ∀ x ∈ l, x.o.rng) (hat : OpsAt w ao l) :
  Calls Tryz.prog 32 #[.agg (entV i ao l.length c)] w fun e w' => ∃ v', e = .returned v' ∧ Own w' w.heap.size v' (payB i (ops l)) ∧ Below w.heap.size w w' := by
 obtain ⟨hn1, hn2, HS⟩ := soundB_all hs
 have HSK : Hid (∀ k (h : k < l.length), Snd l[k].o) := fun k h => HS _ (List.mem_map.2 ⟨_, List.getElem_mem h, rfl⟩)
 have HRK : Hid (∀ k (h : k < l.length), l[k].o.rng) := fun k h => hr _ (List.getElem_mem h)
 have hlen : (ops l).length = l.length := by simp [ops]
 rw [hlen] at hn1 hn2
 have HPL : Hid (∀ k, k ≤ l.length → (opsB (ops (l.take k))).length ≤ 78784) := fun k hk => by
  have h2 := opsB_le (ops (l.take k)) fun o ho => HS o (by
   obtain ⟨x, hx, rfl⟩ := List.mem_map.1 ho
   exact List.mem_map.2 ⟨x, List.mem_of_mem_take hx, rfl⟩)
  have h3 : (ops (l.take k)).length ≤ 64 := by simp [ops]; omega
  have : (ops (l.take k)).length * 1231 ≤ 64 * 1231 := Nat.mul_le_mul_right _ h3
  omega
 have HE : Hid (payB i (ops l) = big 8 i ++ [byteOf l.length] ++ opsB (ops l)) := by show _ = _; unfold payB; rw [hlen]
 clear HS hs hr hlen
 obtain ⟨n, Hn⟩ : ∃ x, Hid (x = l.length) := ⟨_, rfl⟩
 rw [← Hn.out] at hn1 hn2 HE ⊢
 obtain ⟨wx, Hwx⟩ : ∃ x, Hid (x = w.alloc (.cells (entV i ao n c) 27)) := ⟨_, rfl⟩
 have KA : Hid (Blk wx w.heap.size (entV i ao n c) 27) := by rw [Hwx.out]; exact Blk.new _ _ _
 have HB : Hid (Below w.heap.size w wx) := by rw [Hwx.out]; exact below_new w _
 have c0 : wx.cell? ⟨w.heap.size, 0, none⟩ = some (.int .u64 i) := KA.out.cell 0 rfl
 go_enter Tryz.func32, Tryz.ntmps32
 go_upto_region 1 with fail
 rw [← Hwx.out]
 clear Hwx
 go_wp2_with fail
 refine (writeNumber_calls w.heap.size (.slice none 0 0) [] i 8 wx (Own.nil _ _) HB.out.size (by simp) h0 h1 (by omega)).mono ?_
 rintro e w1 ⟨v1, rfl, ho1, hg1⟩
 have KA1 : Hid (Blk w1 w.heap.size (entV i ao n c) 27) := row_grewB KA.out (Own.nil wx w.heap.size) hg1 (by decide)
 have HB1 : Hid (Below w.heap.size w w1) := HB.out.trans (hg1.toBelow HB.out.size (fun k hk => by simp [Value.ownBlock] at hk))
 rw [List.nil_append] at ho1
 clear c0 hg1 KA HB
 have c1 : w1.cell? ⟨w.heap.size, 1, none⟩ = some (.slice ao n c) := KA1.out.cell 1 rfl
 have HN : Hid (bs [byteOf n] = [.int .u8 (n : Int)]) := by
  show _ = _
  rw [bs_lit, byteOf_val]
  rw [show (n : Int) % 256 = n by omega]
 have hb8 : (big 8 i).length = 8 := big_length 8 i
 have HB1s := HB1.out.size
 go_wp2_with (at_builtin; refine append_bytes _ rfl (.tmp 9) (.tmp 14) rfl w.heap.size _ _ rfl (ho1.alloc _) ⟨w1.heap.size, 0, none⟩ 1 1 [byteOf n] rfl rfl (by intro j u hj; rw [HN.out] at hj; exact cells_new _ _ _ j u hj) (by omega) (by simp; omega) ?_)
 intro v2 w2 ho2 hg2'
 have hg2 := hg2'.ofAlloc
 have KA2 : Hid (Blk w2 w.heap.size (entV i ao n c) 27) := row_grewB KA1.out ho1 hg2 (by decide)
 have HB2 : Hid (Below w.heap.size w w2) := HB1.out.trans (ho1.toBelow HB1s hg2)
 have hl2 : (big 8 i ++ [byteOf n]).length = 9 := by simp [big_length]
 obtain ⟨p, Hp⟩ : ∃ x, Hid (x = big 8 i ++ [byteOf n]) := ⟨_, rfl⟩
 rw [← Hp.out] at ho2 hl2 HE
 clear c1 hg2 hg2' ho1 KA1 HB1 HB1s hb8 HN Hp
 have c1 : w2.cell? ⟨w.heap.size, 1, none⟩ = some (.slice ao n c) := KA2.out.cell 1 rfl
 go_wp2_with fail
 clear c1 KA2
 go_loopw [3, 19] (fun x i wr => ∃ k : Nat, k ≤ n ∧ i = .int .i64 k ∧ Own wr w.heap.size x (p ++ opsB (ops (l.take k))) ∧ Hid (Below w.heap.size w wr)) (fun _ i _ => n - (intOf i).toNat)
 case atStart => exact ⟨0, Nat.zero_le _, rfl, by simpa [ops, opsB] using ho2, HB2⟩
 case round =>
  obtain ⟨k, hk, rfl, ho, HBr⟩ := hrel
  clear ho2 HB2
  by_cases hlt : k < n
  ·have hkl : k < l.length := by rw [← Hn.out]; exact hlt
   obtain ⟨b, off, rfl, hrange⟩ := (hat.below HBr.out).at k hkl
   have HC : Hid (CellsAt w l[k].ta (l[k].o.svc.tags.map Value.string)) := hat.tags _ (List.getElem_mem hkl)
   have HT : Hid (p ++ opsB (ops (l.take (k + 1))) = p ++ opsB (ops (l.take k)) ++ opB l[k].o) := by
    show _ = _
    rw [ops_take l k hkl, opsB_snoc, List.append_assoc]
   have hle : (p ++ opsB (ops (l.take k))).length ≤ 78793 := by have := HPL.out k (by omega); simp only [List.length_append]; omega
   obtain ⟨y, Hy⟩ : ∃ y, Hid (y = l[k]'hkl) := ⟨_, rfl⟩
   have hsy : Snd y.o := by rw [Hy.out]; exact HSK.out k hkl
   have hry : y.o.rng := by rw [Hy.out]; exact HRK.out k hkl
   rw [← Hy.out] at hrange HC HT
   obtain ⟨q, Hq⟩ : ∃ x, Hid (x = p ++ opsB (ops (l.take k))) := ⟨_, rfl⟩
   rw [← Hq.out] at ho HT hle
   clear Hy Hq hkl
   have HRG : Hid (wr.rangeAt b (off + k * 21) y.v.toList) := hrange
   clear hrange
   have hBr := HBr.out.size
   have HSY : Hid (Snd y.o) := hsy
   have HRY : Hid (y.o.rng) := hry
   clear hsy hry
   go_upto_region 5 with fail
   iterate 5 go_step
   refine wp_load_ov rfl rfl HRG.out ?_
   iterate 5 go_step
   refine wp_store_op rfl rfl rfl rfl rfl rfl (ov_one _) ?_
   obtain ⟨w3, Hw3⟩ : ∃ x, Hid (x = wr.alloc (.cells y.v 54)) := ⟨_, rfl⟩
   have KB : Hid (Blk w3 wr.heap.size y.v 54) := by rw [Hw3.out]; exact Blk.new _ _ _
   have HO3 := ho.alloc (.cells y.v 54)
   rw [← Hw3.out] at HO3
   have HB3 : Hid (Below w.heap.size w w3) := by rw [Hw3.out]; exact HBr.out.alloc hBr _
   rw [← Hw3.out]
   clear Hw3 ho HBr HRG
   go_upto_region 6 with fail
   iterate 5 go_step
   refine wp_get_op rfl KB.out rfl rfl ?_
   go_wp2_with fail
   have HB3s := HB3.out.size
   refine (writeOp_calls w.heap.size _ q y.o y.ta y.tc w3 HSY.out HRY.out HO3 HB3s (by omega) (Apt.base HO3 (Nat.le_refl _) HB3.out HC.out)).mono ?_
   rintro e w4 ⟨v4, rfl, ho4, hg4⟩
   have HB4 : Hid (Below w.heap.size w w4) := HB3.out.trans (HO3.toBelow HB3s hg4)
   clear hg4 HO3 HB3 KB
   go_wp2
   go_roundw
   case rel => exact ⟨k + 1, by omega, by go_num, by rw [HT.out]; exact ho4, HB4⟩
   case measure => simp [intOf]; omega
  ·have HF : Hid (p ++ opsB (ops (l.take k)) = payB i (ops l)) := by
    show _ = _
    rw [HE.out, List.take_of_length_le (by rw [← Hn.out]; omega)]
   go_wp2
   go_ret
   exact ⟨_, rfl, by rw [← HF.out]; exact ho, HBr.out⟩
end Go.Proofs.YtbhhjnbomhkdmaaGreatDoor
