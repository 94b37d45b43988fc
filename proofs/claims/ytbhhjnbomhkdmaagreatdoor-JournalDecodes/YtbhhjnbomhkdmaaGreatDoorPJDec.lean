import Derived.Test.YtbhhjnbomhkdmaaGreatDoorJRopH
import Derived.Test.YtbhhjnbomhkdmaaGreatDoorRcCopyS
import Derived.Test.YtbhhjnbomhkdmaaGreatDoorJDNum
import Derived.Test.YtbhhjnbomhkdmaaGreatDoorJRDec2
import Derived.Test.YtbhhjnbomhkdmaaGreatDoorJSameE
import Derived.Test.YtbhhjnbomhkdmaaGreatDoorJPayOf
import Derived.Deep.Slices
import Derived.SizedLaws
import Derived.ProofKit
import Derived.Test.YtbhhjnbomhkdmaaGreatDoorRcAddr
import Derived.Lay
import Derived.Lib.LaidTab
import Derived.MakeChecks
import Derived.Test.YtbhhjnbomhkdmaaGreatDoorRows
import Derived.OpenShut
import Derived.LaidMore
import Derived.SevenTiedAt
import Derived.Stop.Joined
import Derived.HandedShaped
import Derived.Shelf.Vars
import Derived.Deep.DeepHandedRow
import Derived.Test.YtbhhjnbomhkdmaaGreatDoorTie
import Derived.Test.YtbhhjnbomhkdmaaGreatDoorCards
/- Layer 13 (journal): JournalTells, the walk. -/
namespace Go.Proofs.YtbhhjnbomhkdmaaGreatDoor
open Go.RowKit
set_option linter.unusedVariables false

theorem own_cap {w : World} {B n cap : Nat} {ao : Option Addr} {l : List UInt8} (h : Own w B (.slice ao n cap) l) : l.length ≤ cap := by
 rcases h.2 with ⟨e, h0⟩ | ⟨g, cap', cur, e, _, _, hnc, _⟩
 ·omega
 ·simp only [Value.slice.injEq] at e
  obtain ⟨_, _, rfl⟩ := e
  exact hnc
end Go.Proofs.YtbhhjnbomhkdmaaGreatDoor

/- Layer 13 (journal): JournalDecodes, the walk. -/
namespace Go.Proofs.YtbhhjnbomhkdmaaGreatDoor
open Go.RowKit
set_option linter.unusedVariables false

/-- An entry, a number of bytes and an error are answered. -/
def AnsA (i n f : Int) (os : List Opp) (w : World) (e : Ending) (w' : World) : Prop := ∃ ao c l', e = .returned (.tuple #[.agg #[.int .u64 i, .slice ao l'.length c], .int .i64 n, .int .i64 f]) ∧ ops l' = os ∧ OpsAt w' ao l' ∧ Below w.heap.size w w'
theorem ans_zero {f : Int} {w w' : World} (hb : Below w.heap.size w w') : AnsA 0 0 f [] w (.returned (.tuple #[.agg #[.int .u64 0, .slice none 0 0], .int .i64 0, .int .i64 f])) w' :=
 ⟨none, 0, [], rfl, rfl, ⟨fun h => absurd rfl h, fun x hx => by cases hx⟩, hb⟩
theorem payE_zero {l : List UInt8} (h : payE l = 0) : l.length ≠ 0 ∧ l.getD 0 0 = 77 ∧ 5 ≤ l.length ∧ lenB l ≤ 131072 ∧ 9 + lenB l ≤ l.length := by
 unfold payE at h
 split at h
 ·cases h
 rename_i h0
 split at h
 ·cases h
 rename_i h1
 split at h
 ·cases h
 rename_i h2
 split at h
 ·cases h
 rename_i h3
 split at h
 ·cases h
 rename_i h4
 exact ⟨h0, Decidable.not_not.1 h1, by omega, by omega, by omega⟩
theorem dec_both (l : List UInt8) (hl : l.length ≤ 140737488351296) : ∃ (i n f : Int) (os : List Opp), (os.length ≤ 255 ∧ ∀ o ∈ os, o.svc.tags.length ≤ 255) ∧
  (∀ (ao : Option Addr) (cap : Nat) (w : World), l.length ≤ cap → cap ≤ maxLen → BAt w ao l → Calls Tryz.prog 6 #[.slice ao l.length cap] w (AnsA i n f os w)) ∧
  (∀ (ao : Option Addr) (cap : Nat) (w : World), Vs w → l.length ≤ cap → BAt w ao l → Calls Tryz.prog 7 #[.slice ao l.length cap] w (AnsA i n f os w)) := by
 by_cases h0 : payE l = 0
 ·obtain ⟨g0, g1, g2, g3, g4⟩ := payE_zero h0
  have hpl : (payP l).length ≤ 131072 := by unfold payP; rw [List.length_take]; omega
  cases hk : readOk (payP l) with
  | false =>
   refine ⟨0, 0, 133, [], ⟨Nat.zero_le _, fun o ho => by cases ho⟩, fun ao cap w hc hm h => ?_, fun ao cap w hv hc h => ?_⟩
   ·obtain ⟨xb, xo, rfl, _⟩ := h.at 0 (by omega)
    refine (rdecode_long xb xo cap l w (by omega) hc hm h g1 g2 g3 g4).mono ?_
    rintro e w' ⟨hb, ⟨he, _⟩ | ⟨_, _, rfl⟩ | ⟨_, he, _⟩⟩
    ·rw [h0] at he; cases he
    ·exact ans_zero hb
    ·rw [hk] at he; cases he
   ·refine (decode_none ao cap l w hv (by omega) hc h h0 hpl hk).mono ?_
    rintro e w' ⟨rfl, hb⟩
    exact ans_zero hb
  | true =>
   obtain ⟨q1, q2, _⟩ := opsP_ok (readN (payP l)) (tkS 1 (tkS 8 (payP l, false)))
   refine ⟨(readI (payP l) : Nat), (((payP l).length + 9 : Nat) : Int), 0, (readO (payP l)).1, ⟨?_, fun o ho => (q1 o ho).2.1⟩, fun ao cap w hc hm h => ?_, fun ao cap w hv hc h => ?_⟩
   ·show (opsP (readN (payP l)) (tkS 1 (tkS 8 (payP l, false)))).1.length ≤ 255
    rw [q2]
    have := smlB_lt (tkS 8 (payP l, false))
    unfold readN
    omega
   ·obtain ⟨xb, xo, rfl, _⟩ := h.at 0 (by omega)
    refine (rdecode_long xb xo cap l w (by omega) hc hm h g1 g2 g3 g4).mono ?_
    rintro e w' ⟨hb, ⟨he, _⟩ | ⟨_, he, _⟩ | ⟨_, _, ao, c, l', rfl, ho, hown⟩⟩
    ·rw [h0] at he; cases he
    ·rw [hk] at he; cases he
    ·exact ⟨ao, c, l', rfl, ho, hown.at, hb⟩
   ·refine (decode_ok ao cap l w hv (by omega) hc h h0 hpl hk).mono ?_
    rintro e w' ⟨ao, c, l', rfl, ho, hown, hb⟩
    exact ⟨ao, c, l', rfl, ho, hown.at, hb⟩
 ·refine ⟨0, 0, payE l, [], ⟨Nat.zero_le _, fun o ho => by cases ho⟩, fun ao cap w hc hm h => ?_, fun ao cap w hv hc h => ?_⟩
  ·by_cases hsh : l.length = 0 ∨ l.getD 0 0 ≠ 77 ∨ l.length < 5 ∨ 131072 < lenB l ∨ l.length < 9 + lenB l
   ·refine (rdecode_short ao cap l w (by omega) hc hm h hsh).mono ?_
    rintro e w' ⟨rfl, hb⟩
    exact ans_zero hb
   ·have g1 : l.getD 0 0 = 77 := Decidable.not_not.1 fun hh => hsh (.inr (.inl hh))
    have g0 : ¬ l.length = 0 := fun hh => hsh (.inl hh)
    have g2 : ¬ l.length < 5 := fun hh => hsh (.inr (.inr (.inl hh)))
    have g3 : ¬ 131072 < lenB l := fun hh => hsh (.inr (.inr (.inr (.inl hh))))
    have g4 : ¬ l.length < 9 + lenB l := fun hh => hsh (.inr (.inr (.inr (.inr hh))))
    obtain ⟨xb, xo, rfl, _⟩ := h.at 0 (by omega)
    refine (rdecode_long xb xo cap l w (by omega) hc hm h g1 (by omega) (by omega) (by omega)).mono ?_
    rintro e w' ⟨hb, ⟨he, rfl⟩ | ⟨he, _⟩ | ⟨he, _⟩⟩
    ·rw [he]
     exact ans_zero hb
    ·exact absurd he h0
    ·exact absurd he h0
  ·refine (decode_bad ao cap l w (by omega) hc h h0).mono ?_
   rintro e w' ⟨rfl, hb⟩
   exact ans_zero hb

set_option maxRecDepth 100000 in
set_option maxHeartbeats 2000000 in
theorem journalDecodes_calls (ao : Option Addr) (cap : Nat) (l : List UInt8) (w : World) (hv : Vs w) (hl : l.length ≤ 140737488351296) (hcap : l.length ≤ cap) (hcm : cap ≤ maxLen) (h : BAt w ao l) :
  Calls Tryz.prog 3 #[.slice ao l.length cap] w fun e w' => e = .returned (.bool true) ∧ Below w.heap.size w w' := by
 obtain ⟨i, dn, df, os, ⟨ho1, ho2⟩, HD1, HD2⟩ := dec_both l hl
 have HV : Hid (Vs w) := hv
 go_enter Tryz.func3, Tryz.ntmps3
 go_wp2_with fail
 refine (journalFixed_calls w hv).mono ?_
 rintro e w1 ⟨rfl, hb1⟩
 have HB1 : Hid (Below w.heap.size w w1) := hb1
 have HA1 : Hid (BAt (w1.alloc (.cells #[] 5)) ao l) := (h.below hb1).below (below_new _ _)
 clear hv hb1
 obtain ⟨n, Hn⟩ : ∃ n, Hid (n = l.length) := ⟨_, rfl⟩
 rw [← Hn.out] at hl hcap ⊢
 have HNL : Hid ((bs l).length = n * 1) := by show _ = _; rw [bs_length, ← Hn.out, Nat.mul_one]
 go_wp2_with (at_builtin; refine append_src _ rfl (.tmp 12) (.tmp 13) 22 5 (.int .u8 0) 1 1 Tryz.underlying22 info_u8 rfl (by decide) rfl w1.heap.size _ 0 [] rfl (empty_own w1) ao n cap (bs l) rfl HNL.out HA1.out (bs_one l) (by unfold maxLen; omega) (by omega) (by simp) ?_)
 intro v2 w2 ho2' hg2
 have ho2' : Own w2 w1.heap.size v2 l := by
  unfold Own
  rw [← Hn.out]
  simpa using ho2'
 have HB2 : Hid (Below w.heap.size w w2) := HB1.out.trans ((((Below.refl w1.heap.size w1).alloc (Nat.le_refl _) _).trans (hg2.toBelow (by simp) (fun q hq => by simp [Value.ownBlock] at hq; omega))).mono HB1.out.size)
 clear hg2 HA1 HNL
 obtain ⟨a2, c2, rfl⟩ := ho2'.shape
 have HO2 : Hid (Own w2 w1.heap.size (.slice a2 l.length c2) l) := ho2'
 have hc2 : n ≤ c2 := by rw [Hn.out]; exact own_cap ho2'
 rw [← Hn.out]
 have HC1 : Hid (Calls Tryz.prog 6 #[.slice ao n cap] w2 (AnsA i dn df os w2)) := by
  have := HD1 ao cap w2 (by rw [← Hn.out]; exact hcap) hcm (h.below HB2.out)
  rw [← Hn.out] at this
  exact this
 clear ho2' HD1
 go_wp2_with fail
 refine HC1.out.mono ?_
 clear HC1
 rintro e w3 ⟨a3, c3, m3, rfl, hm3, hat3, hb3⟩
 obtain ⟨k3, Hk3⟩ : ∃ x, Hid (x = m3.length) := ⟨_, rfl⟩
 rw [← Hk3.out]
 obtain ⟨w4, Hw4⟩ : ∃ x, Hid (x = w3.alloc (.cells #[.int .u64 i, .slice a3 k3 c3] 27)) := ⟨_, rfl⟩
 have hb34 : Below w3.heap.size w3 w4 := by rw [Hw4.out]; exact below_new _ _
 have HB4 : Hid (Below w.heap.size w w4) := (HB2.out.trans (hb3.mono HB2.out.size)).trans (hb34.mono (Nat.le_trans HB2.out.size hb3.size))
 have HO4 : Hid (Own w4 w1.heap.size (.slice a2 l.length c2) l) := (HO2.out.below hb3).below hb34
 have HAT4 : Hid (OpsAt w4 a3 m3) := hat3.below hb34
 have HX4 : Hid (Blk w4 w3.heap.size #[.int .u64 i, .slice a3 k3 c3] 27) := by rw [Hw4.out]; exact Blk.new _ _ _
 have HM3 : Hid (ops m3 = os) := hm3
 clear hm3 hat3 hb3 HO2 hb34
 go_upto_region 5 with fail
 rw [← Hw4.out]
 obtain ⟨g4, Hg4⟩ : ∃ x, Hid (x = w3.heap.size) := ⟨_, rfl⟩
 rw [← Hg4.out] at HX4 ⊢
 clear Hw4 Hg4
 have HC2 : Hid (Calls Tryz.prog 7 #[.slice a2 n c2] w4 (AnsA i dn df os w4)) := by
  have := HD2 a2 c2 w4 (HV.out.stay HB4.out) (by rw [← Hn.out]; exact hc2) HO4.out.bytes
  rw [← Hn.out] at this
  exact this
 clear HD2
 go_wp2_with fail
 refine HC2.out.mono ?_
 clear HC2
 rintro e w5 ⟨a5, c5, m5, rfl, hm5, hat5, hb5⟩
 obtain ⟨k5, Hk5⟩ : ∃ x, Hid (x = m5.length) := ⟨_, rfl⟩
 rw [← Hk5.out]
 obtain ⟨w6, Hw6⟩ : ∃ x, Hid (x = w5.alloc (.cells #[.int .u64 i, .slice a5 k5 c5] 27)) := ⟨_, rfl⟩
 have hb56 : Below w5.heap.size w5 w6 := by rw [Hw6.out]; exact below_new _ _
 have hb46 : Below w4.heap.size w4 w6 := hb5.trans (hb56.mono hb5.size)
 have HB6 : Hid (Below w.heap.size w w6) := HB4.out.trans (hb46.mono HB4.out.size)
 have HO6 : Hid (Own w6 w1.heap.size (.slice a2 l.length c2) l) := HO4.out.below hb46
 have HAT6 : Hid (OpsAt w6 a3 m3) := HAT4.out.below hb46
 have HAU6 : Hid (OpsAt w6 a5 m5) := hat5.below hb56
 have HX6 : Hid (Blk w6 g4 #[.int .u64 i, .slice a3 k3 c3] 27) := HX4.out.below hb46
 have HY6 : Hid (Blk w6 w5.heap.size #[.int .u64 i, .slice a5 k5 c5] 27) := by rw [Hw6.out]; exact Blk.new _ _ _
 have HM5 : Hid (ops m5 = os) := hm5
 clear hm5 hat5 hb5 hb56 hb46 HO4 HAT4 HX4 HB4
 go_upto_region 6 with fail
 rw [← Hw6.out]
 obtain ⟨g6, Hg6⟩ : ∃ x, Hid (x = w5.heap.size) := ⟨_, rfl⟩
 rw [← Hg6.out] at HY6 ⊢
 clear Hw6 Hg6
 have hl5 : m5.length ≤ 255 := by
  have h1 := congrArg List.length HM5.out
  rw [show (ops m5).length = m5.length by simp [ops]] at h1
  omega
 have HCE : Hid (Calls Tryz.prog 8 #[.agg #[.int .u64 i, .slice a5 k5 c5], .agg #[.int .u64 i, .slice a3 k3 c3]] w6 fun e w' => e = .returned (.bool true) ∧ Below w6.heap.size w6 w') := by
  have := sameE_calls i a5 a3 c5 c3 m5 m3 w6 (by omega) (by rw [HM3.out, HM5.out]) (fun x hx => by
   have := ho2 x.o (by rw [← HM5.out]; exact List.mem_map.2 ⟨x, hx, rfl⟩)
   omega) HAU6.out HAT6.out
  rw [← Hk5.out, ← Hk3.out] at this
  exact this
 have x0 : w6.cell? ⟨g4, 0, none⟩ = some (.int .u64 i) := HX6.out.cell 0 rfl
 have x1 : w6.cell? ⟨g4, 1, none⟩ = some (.slice a3 k3 c3) := HX6.out.cell 1 rfl
 have y0 : w6.cell? ⟨g6, 0, none⟩ = some (.int .u64 i) := HY6.out.cell 0 rfl
 have y1 : w6.cell? ⟨g6, 1, none⟩ = some (.slice a5 k5 c5) := HY6.out.cell 1 rfl
 go_wp2_with fail
 refine HCE.out.mono ?_
 clear HCE x0 x1 y0 y1
 rintro e w7 ⟨rfl, hb7⟩
 have HB7 : Hid (Below w.heap.size w w7) := HB6.out.trans (hb7.mono HB6.out.size)
 have HCS : Hid (Calls Tryz.prog 9 #[.slice a2 n c2, .slice ao n cap] w7 fun e w' => e = .returned (.bool true) ∧ ∃ n, w' = w7.drewN n) := by
  have := same_calls a2 ao c2 cap l l w7 (by rw [← Hn.out]; omega) (by rw [← Hn.out]; omega) (HO6.out.below hb7).bytes (h.below HB7.out)
  rw [← Hn.out] at this
  simp only [decide_true] at this
  exact this
 clear hb7 HO6 HB6 HAT6 HAU6 HX6 HY6
 go_wp2_with fail
 refine HCS.out.mono ?_
 clear HCS
 rintro e w8 ⟨rfl, hd⟩
 have HB8 : Hid (Below w.heap.size w w8) := by
  obtain ⟨m, rfl⟩ := hd
  exact HB7.out.trans ((below_draws _ _).mono HB7.out.size)
 clear hd HB7
 go_wp2
 go_ret
 exact ⟨rfl, HB8.out⟩
end Go.Proofs.YtbhhjnbomhkdmaaGreatDoor

/- Layer 13 (journal): arguments of type []byte, byte, opened. -/
namespace Go.Proofs.YtbhhjnbomhkdmaaGreatDoor
open Go.RowKit Go.Deep Go.ChangeShapes Go.WideShapes
set_option linter.unusedVariables false

def byteData {H : Type} (c : UInt8) : DataW H := .lit (.int .u8 (c.toNat : Int))
def BytesData {H : Type} (l : List UInt8) (d : DataW H) : Prop := d = .nil ∧ l = [] ∨ ∃ sp, d = .slice (l.map byteData) sp
theorem cells_b : Tryz.prog.cellsOf 5 = 1 := by kernel_rfl
theorem bytes_b : Tryz.prog.bytesOf 5 = 1 := by kernel_rfl
theorem u8_bounds {n : Int} (h : (Lit.int .u8 n).wf = true) : 0 ≤ n ∧ n < 256 := by
 have h1 : IntKind.u8.min = 0 := rfl
 have h2 : IntKind.u8.max = 255 := rfl
 simp only [Lit.wf, Bool.and_eq_true, decide_eq_true_eq, h1, h2] at h
 omega
theorem u8_of {n : Int} (h : (Lit.int .u8 n).wf = true) : ∃ c : UInt8, n = (c.toNat : Int) := ⟨UInt8.ofNat n.toNat, by
 have := u8_bounds h
 rw [UInt8.toNat_ofNat']; omega⟩
theorem open_bytes {H : Type} {enc : TypeId × Value → H} {W : World} {fuel : Nat} {ao : Option Addr} {len cap : Nat} {x : DataW H × List MemPlace}
  (h : DataW.trod enc Tryz.prog W 0 (fun _ => true) true fuel 22 [.slice ao len cap] = some x) :
  ∃ l : List UInt8, l.length = len ∧ BytesData l x.1 ∧ BAt W ao l := by
 rcases open_slice Tryz.underlying22 h with ⟨hc, hx⟩ | ⟨a, len', cap', m, n, D, Pl, hc, hb, hl, hm, hmm, hx, hel⟩
 ·simp at hc
  obtain ⟨rfl, rfl, rfl⟩ := hc
  exact ⟨[], rfl, .inl ⟨by rw [hx], rfl⟩, fun h => absurd rfl h⟩
 ·simp at hc
  obtain ⟨rfl, rfl, rfl⟩ := hc
  simp only [if_true] at hmm
  subst hmm
  rw [cells_b] at hel
  have each : ∀ i, i < len → ∃ p : UInt8, D i = byteData p ∧ W.cell? (a.add i) = some (.int .u8 (p.toNat : Int)) := by
   intro i hi
   obtain ⟨cs', h1, h2⟩ := hel i (by omega)
   obtain ⟨_, hlen, hcell⟩ := World.cells?_some h1
   match cs', hlen with
   | [v0], _ =>
    obtain ⟨s1, q1, r1, w1⟩ := DataW.trod_int Tryz.underlying5 h2
    have e0 := hcell 0 (by omega)
    rw [add_add] at e0
    obtain ⟨c, rfl⟩ := u8_of w1
    simp at q1
    subst q1
    refine ⟨c, ?_, by simpa using e0⟩
    have := congrArg Prod.fst r1
    simpa [byteData] using this
  obtain ⟨f, hf⟩ : ∃ f : Nat → UInt8, ∀ i, i < len → _ := @choose_lt UInt8 ⟨0⟩ len _ each
  refine ⟨(List.range len).map f, by simp, .inr ⟨(List.range (m - len)).map fun j => D (len + j), ?_⟩, fun hne => ?_⟩
  ·rw [hx]
   simp only [DataW.slice.injEq, and_true]
   rw [List.map_map]
   exact List.map_congr_left fun i hi => (hf i (List.mem_range.1 hi)).1
  ·have h0 : 0 < len := by
    rcases Nat.eq_zero_or_pos len with h | h
    ·subst h; exact absurd rfl hne
    ·exact h
   obtain ⟨b, off, spot⟩ := a
   have hspot : spot = none := by simpa [Addr.add] using World.cell?_spot (hf 0 h0).2
   subst hspot
   refine ⟨b, off, rfl, fun j u hj => ?_⟩
   have hj' : j < len := by have := (List.getElem?_eq_some_iff.1 hj).1; simpa [bs] using this
   have hu : u = .int .u8 ((f j).toNat : Int) := by simp [bs, hj'] at hj; exact hj.symm
   rw [hu, ← add_plain]
   exact (hf j hj').2
theorem bytes_reach {H : Type} {l : List UInt8} {d : DataW H} (hd : BytesData l d) (hw : ∀ n ∈ d.weights Tryz.prog 22, n ≤ reachBytes) : l.length ≤ 140737488351232 := by
 rcases hd with ⟨_, rfl⟩ | ⟨sp, rfl⟩
 ·simp
 ·simp only [DataW.weights, Tryz.underlying22, bytes_b] at hw
  have := hw _ (List.mem_cons_self ..)
  simp only [List.length_map, reachBytes] at this
  omega
end Go.Proofs.YtbhhjnbomhkdmaaGreatDoor

/- What the listed variables read as, one by one. -/
namespace Go.Proofs.YtbhhjnbomhkdmaaGreatDoor
open Go.RowKit
set_option linter.unusedVariables false

theorem laid_entry {P : Program} {W : World} : ∀ {laid : List (String × DataW Unit)} {ps : List MemPlace}, DataW.LaidVars P W laid ps → ∀ {n : String} {d : DataW Unit}, (n, d) ∈ laid →
  ∃ g t cs fuel q, P.globalNamed n = some g ∧ (P.globals[g]?).map (·.type) = some t ∧ W.var? P n = some cs ∧ DataW.trod (fun _ => ()) P W 0 (fun _ => true) false fuel t cs.toList = some (d, q) := by
 intro laid
 induction laid with
 | nil => intro ps _ n d hm; simp at hm
 | cons x laid ih =>
  intro ps h n d hm
  obtain ⟨g, t, cs, fuel, p, q, hg, ht, hv, hd, hr, _⟩ := h
  rcases List.mem_cons.1 hm with rfl | hm
  ·exact ⟨g, t, cs, fuel, p, hg, ht, hv, hd⟩
  ·exact ih hr hm
set_option maxRecDepth 100000 in
theorem pow_of {W : World} {t : TypeId} {cs : Array Value} {fuel : Nat} {q : List MemPlace} (ht : t = 205) (hv : W.var? Tryz.prog "internal/strconv.uint64pow10" = some cs) (hd : DataW.trod (fun _ => ()) Tryz.prog W 0 (fun _ => true) false fuel t cs.toList = some (Lib.tabData .u64 Lib.pow10Tab, q)) : Lib.TabIs Tryz.prog W "internal/strconv.uint64pow10" .u64 Lib.pow10Tab := by
 subst ht
 unfold Lib.TabIs
 rw [hv, ← Lib.cells_of_tab Tryz.underlying205 Tryz.underlying24 (by kernel_rfl) (by kernel_rfl) hd]
set_option maxRecDepth 100000 in
theorem err_of {W : World} {n : String} {t : TypeId} {cs : Array Value} {fuel : Nat} {q : List MemPlace} {nm : String} {d : DataW Unit} (ht : t = 161) (hv : W.var? Tryz.prog n = some cs) (hd : DataW.trod (fun _ => ()) Tryz.prog W 0 (fun _ => true) false fuel t cs.toList = some (.iface nm d, q)) : ∃ t p, W.var? Tryz.prog n = some #[.iface t p] := by
 subst ht
 obtain ⟨_, u, v, hcs, _, _⟩ := iface_of_trod Tryz.underlying161 hd
 exact ⟨u, v, by rw [hv]; congr 1; exact Array.toList_inj.1 hcs⟩
set_option maxRecDepth 100000 in
theorem vs_of {W : World} {laid : List (String × DataW Unit)} (hp : (laid.all fun x => x.2.handleName?.isNone) = true) {nm1 nm2 : String} {d1 d2 : DataW Unit}
  (h1 : ("internal/strconv.uint64pow10", Lib.tabData .u64 Lib.pow10Tab) ∈ laid) (h2 : ("strconv.ErrSyntax", .iface nm1 d1) ∈ laid) (h3 : ("strconv.ErrRange", .iface nm2 d2) ∈ laid) (h : laidMetH Tryz.prog laid W) : Vs W := by
 rw [MakeChecks.laidMetH_plain _ _ _ hp] at h
 obtain ⟨ps, hl, _⟩ := h
 obtain ⟨g1, t1, c1, f1, q1, hg1, ht1, hv1, hd1⟩ := laid_entry hl h1
 obtain ⟨g2, t2, c2, f2, q2, hg2, ht2, hv2, hd2⟩ := laid_entry hl h2
 obtain ⟨g3, t3, c3, f3, q3, hg3, ht3, hv3, hd3⟩ := laid_entry hl h3
 have ty : ∀ {n : String} {g : Nat} {t t' : TypeId}, Tryz.prog.globalNamed n = some g → (Tryz.prog.globals[g]?).map (·.type) = some t → ((Tryz.prog.globalNamed n).bind fun g => (Tryz.prog.globals[g]?).map (·.type)) = some t' → t = t' := fun ha hb hc => by
  rw [ha, Option.bind_some, hb] at hc
  exact Option.some.inj hc
 exact ⟨pow_of (ty hg1 ht1 (by kernel_rfl)) hv1 hd1, err_of (ty hg2 ht2 (by kernel_rfl)) hv2 hd2, err_of (ty hg3 ht3 (by kernel_rfl)) hv3 hd3⟩
end Go.Proofs.YtbhhjnbomhkdmaaGreatDoor

/- A row with listed variables, whose walk is told of them and of the memory's shape. -/
namespace Go.Proofs.YtbhhjnbomhkdmaaGreatDoor
open Go.ChangeShapes Go.WideShapes Go.ChangeAt Go.RowKit
set_option linter.unusedVariables false

/-- The listed variables' condition and the memory's shape, both handed to the walk. -/
theorem returnsLaidShaped {H : Type} {enc : TypeId × Value → H} {a : Assume} {C : Checked} {os : Os} {f : FuncId} {fn : Func} {s : ChangeSpec} {conds : List PathCond} {apart fresh handsOn again : Bool} {X : World → Array Value → Prop}
  (hX : ∀ (w w' : World) (args : Array Value), w.heap = w'.heap → X w args → X w' args)
  (own : ownKnob C.prog.godebug = none) (started : os.Started) (noInit : C.prog.inits.idxOf? f = none) (hfn : C.prog.funcs[f]? = some fn)
  (witness : ∃ (w : World) (tape : Tape) (i : Input), w.os = os ∧ (w.forCall tape i).Shaped C.prog ∧ i.vars = [] ∧ Input.okWide C.prog (w.forCall tape i) .any w.heap.size f i ∧
   ((s.pre enc C.prog fn conds apart (w.forCall tape i).memory i.args ∧ X (w.forCall tape i).memory i.args) ∧ sizedMet enc C.prog fn (OpenSpec.ofChange s) apart (w.forCall tape i).memory i.args) ∧ a.holds C.prog (lone (Frame.enter C.prog f i.args .normal) [] (w.forCall tape i)))
  (contract : ∀ (W : World) (base : Nat) (args : Array Value) (ds gs : List (DataW H)) (before : List MemPlace),
   (∀ (j : Nat) t v, fn.params[j]? = some t → args[j]? = some v → Value.okWide C.prog W .any base t v) →
   DataW.Whole enc C.prog fn.params.toList s.vars apart W args.toList ds gs before →
   conds.all (PathCond.test C.prog ⟨fn.params.toList, ds, s.plain.varTypes C.prog, gs⟩) = true →
   (DataW.weightsEach C.prog (fn.params.toList ++ s.plain.varTypes C.prog) (ds ++ gs)).all (· ≤ reachBytes) = true → X W args → W.ShapedOpen C.prog →
   Calls C.prog f args W fun e W' => ∃ v, e = .returned v ∧ s.post enc C.prog fn apart fresh handsOn again W args v W') :
  ReturnsInHanded a C os f .any (fun w args => (s.pre enc C.prog fn conds apart w args ∧ X w args) ∧ sizedMet enc C.prog fn (OpenSpec.ofChange s) apart w args) (s.post enc C.prog fn apart fresh handsOn again) := by
 refine returnsInHanded_of_calls own started noInit witness ?_
 intro w tape i _ hsh _ hok hpre _
 obtain ⟨_, _, _, fn', hfn', _, _, _, _, hval⟩ := hok
 obtain rfl : fn' = fn := Option.some.inj (hfn'.symm.trans hfn)
 obtain ⟨⟨⟨ds, gs, before, hw, hc⟩, hx⟩, hz⟩ := hpre
 refine (contract (w.forCall tape i) w.heap.size i.args ds gs before hval (DataW.Whole.of_heap (w' := w.forCall tape i) (by rfl) hw) hc (hz.weights hw) (hX _ _ _ (by rfl) hx) hsh).mono fun e W' ⟨v, he, hp⟩ => ?_
 subst he
 exact ChangeSpec.post_blind hp
end Go.Proofs.YtbhhjnbomhkdmaaGreatDoor

/- JournalDecodes answers true and leaves its argument as it was, for every bytes, where the library's variables that it reads are as the program's own text lays them (the card ties that). No other condition. -/
namespace Go.Proofs.YtbhhjnbomhkdmaaGreatDoor
open Go.ChangeShapes Go.WideShapes Go.ChangeAt Go.RowKit Go.Deep
open Go.ChangeMaps (open_string shut_string)
set_option linter.unusedVariables false

theorem bytes_cap {H : Type} {enc : TypeId × Value → H} {W : World} {fuel : Nat} {ao : Option Addr} {len cap : Nat} {x : DataW H × List MemPlace}
  (h : DataW.trod enc Tryz.prog W 0 (fun _ => true) true fuel 22 [.slice ao len cap] = some x) : len ≤ cap ∧ cap ≤ maxLen := by
 rcases open_slice Tryz.underlying22 h with ⟨hc, _⟩ | ⟨a, len', cap', m, n, D, Pl, hc, _, hl, hm, _⟩
 ·simp at hc
  obtain ⟨rfl, rfl, rfl⟩ := hc
  exact ⟨Nat.le_refl _, Nat.zero_le _⟩
 ·simp at hc
  obtain ⟨rfl, rfl, rfl⟩ := hc
  exact ⟨hl, hm⟩
namespace PJDec
theorem own : ownKnob Tryz.prog.godebug = none := by kernel_rfl
theorem laidOut : laidOutB Tryz.prog = true := by kernel_rfl
abbrev laidL : List (String × DataW Unit) := Rows.journalDecodesRow.laid

set_option maxRecDepth 100000 in
theorem lifted (os : Os) (started : os.Started) (H : Type) (enc : TypeId × Value → H) :
  ReturnsInHanded {} Tryz.checked os 3 .any (fun w args => (Rows.journalDecodesSpec.pre enc Tryz.prog Tryz.f3 Rows.journalDecodesRow.domain false w args ∧ laidMetH Tryz.prog laidL w) ∧ sizedMet enc Tryz.prog Tryz.f3 (OpenSpec.ofChange Rows.journalDecodesSpec) false w args)
   (Rows.journalDecodesSpec.post enc Tryz.prog Tryz.f3 false true false false) := by
 refine returnsLaidShaped (C := Tryz.checked) (X := fun w _ => laidMetH Tryz.prog laidL w) (fun _ _ _ hh h => h.of_heap hh) own started (by kernel_rfl) Tryz.func3
  (ChangeSpec.witness_shaped (enc := enc) (C := Tryz.checked) (os := os) (X := fun w _ => laidMetH Tryz.prog laidL w) false (World.laidAll Tryz.prog os laidL) #[.slice none 0 0] 8 (World.laidAll_os _ _ _)
   (World.shaped_of_ZipB (by kernel_rfl) (by kernel_rfl)) (by kernel_rfl) (by kernel_rfl) (by kernel_rfl)
   (by rw [MakeChecks.laidMetH_plain _ _ _ (by kernel_rfl)]; exact laidMet_laidAll _ (by kernel_rfl) (by kernel_rfl))) ?_
 intro W base args ds gs before hval0 hW hc hsz0 hL hsh
 have hk : Vs W := vs_of (by kernel_rfl) (.tail _ (.tail _ (.head _))) (.tail _ (.tail _ (.tail _ (.tail _ (.tail _ (.head _)))))) (.tail _ (.tail _ (.tail _ (.tail _ (.head _))))) hL
 have hsz : (DataW.weightsEach Tryz.prog (Tryz.f3.params.toList ++ Rows.journalDecodesSpec.plain.varTypes Tryz.prog) (ds ++ gs)).all (· ≤ reachBytes) = true := hsz0
 have hW' := hW
 obtain ⟨p, q, hA0, hV, rfl, _, _⟩ := hW
 have hA : DataW.TrodAll enc Tryz.prog W 0 (fun _ => true) true Tryz.f3.params.toList args.toList ds p := hA0
 have hval : ∀ (j : Nat) t v, Tryz.f3.params[j]? = some t → args[j]? = some v → Value.okWide Tryz.prog W .any base t v := hval0
 rw [Tryz.params3] at hA hval hsz
 obtain ⟨v0, d0, rfl, rfl, h0⟩ := trodAll_one hA
 obtain ⟨rfl, rfl⟩ := trodVars_none hV
 have k0 := h0
 obtain ⟨fu0, e0⟩ := h0
 have hv0 := hval 0 22 v0 rfl rfl
 obtain ⟨ao, n, c, rfl⟩ : ∃ ao n c, v0 = .slice ao n c := okWide_slice Tryz.underlying22 hv0
 obtain ⟨hcap, hcm⟩ := bytes_cap (by simpa [Value.cells] using e0)
 obtain ⟨l, rfl, hd0, hb0⟩ := open_bytes (by simpa [Value.cells] using e0)
 dsimp only at hd0
 have hr := bytes_reach hd0 fun n hn => of_decide_eq_true (List.all_eq_true.1 hsz _ (DataW.weights_mem_each (j := 0) rfl rfl n hn))
 clear hA0 hval hval0 hL hc hsz hsz0
 simp only [List.append_nil] at hW'
 have hlt0 : ∀ x, x ∈ p → x.block < W.heap.size := fun x hx => hW'.lt x (by simp [hx])
 refine (journalDecodes_calls ao c l W hk (by omega) hcap hcm hb0).mono fun e W' ⟨he, hg⟩ => ?_
 subst he
 exact ⟨_, rfl, _, _, _, [], _, [], hW', trodAll_mk1 (shut_bool Tryz.underlying4 _), trodAll_mk1 (Below.trod laidOut (by kernel_rfl) (of_decide_eq_true (by kernel_rfl)) k0 hg hlt0), rfl, hg.frame _, fun h => by cases h⟩
end PJDec

theorem journalDecodes_said : Rows.JournalDecodesSaid :=
 OpenClaim.holds_of_wide 3 Tryz.f3 rfl rfl rfl rfl rfl rfl rfl ⟨rfl, rfl, rfl, rfl, rfl⟩ rfl rfl rfl rfl rfl (by kernel_rfl) Tryz.func3 (by kernel_rfl)
  (of_decide_eq_true (by kernel_rfl)) (by unfold Func.isWrapper; first | (rw [if_pos (by decide +kernel)]; kernel_rfl) | (rw [if_neg (by decide +kernel)]; exact ⟨rfl, rfl⟩))
  (fun os started H enc _ => PJDec.lifted os started H enc)

theorem journalDecodes_holds : Rows.JournalDecodesCardSaid :=
 Claim7.holds_tied_plain_at .later [] _ _ _ _ journalDecodes_said (fun _ h => by cases h) (by kernel_rfl) (fun _ h => by cases h) journalDecodes_row_tie rfl ⟨rfl, rfl⟩ (by kernel_rfl) rfl
  (fun f fn hf hfn => by
   obtain rfl : f = 3 := Option.some.inj (Eq.trans hf.symm (by kernel_rfl))
   obtain rfl : fn = Tryz.f3 := (Option.some.inj (Tryz.func3.symm.trans hfn)).symm
   exact ⟨by kernel_rfl, fun j t ht => by
    rw [Tryz.params3] at ht
    have hm := Array.mem_of_getElem? ht
    simp at hm
    subst hm
    exact (show Tryz.prog.wantsStandIn 22 = false by kernel_rfl)⟩)
  (by kernel_rfl)
#print axioms journalDecodes_holds
end Go.Proofs.YtbhhjnbomhkdmaaGreatDoor
