import Derived.Test.YtcdfbbjakkmmoaaRLook
import Derived.Test.YtcdfbbjakkmmoaaXHeld
/- Layer 3 (radix): the tree of "ab", "abc", "ax". -/
namespace Go.Proofs.Ytcdfbbjakkmmoaa
open Go.RowKit
set_option linter.unusedVariables false

abbrev kA : ByteArray := ⟨#[97]⟩
abbrev kAB : ByteArray := ⟨#[97, 98]⟩
abbrev kABC : ByteArray := ⟨#[97, 98, 99]⟩
abbrev kAX : ByteArray := ⟨#[97, 120]⟩

def v7 (v : Vl) : Prop := v.x = .int .i64 7

/-- The trees on the way. -/
inductive Shape : Nat → Tr → Prop
  | zero (a g) : Shape 0 (.nd a kE none [] g)
  | one (a g b h v) (hv : v7 v) : Shape 1 (.nd a kE none [.nd b kAB (some v) [] h] g)
  | two (a g b h c i v u) (hv : v7 v) : Shape 2 (.nd a kE none [.nd b kAB (some v) [.nd c kABC (some u) [] i] h] g)
  | three (a g b h c i d j e m v u x) (hv : v7 v) : Shape 3 (.nd a kE none [.nd d kA none [.nd b kAB (some v) [.nd c kABC (some u) [] i] h, .nd e kAX (some x) [] m] j] g)

theorem shape0 {T : Tr} (h : Shape 0 T) : ∃ c, Along kAB.data.toList T ([] ++ [c]) ∧ valAt c kAB = none ∧ ∀ N v T', v7 v → InsR N kAB v T T' → Shape 1 T' := by
  cases h with
  | zero a g =>
    refine ⟨_, .stop rfl, rfl, fun N v T' hv hI => ?_⟩
    cases hI with
    | entry hn h => cases h with
      | here ha hg hp => exact absurd (show (0 : Nat) = 2 from hp) (by decide)
      | leaf ha hg hl hgl hp hno => exact .one _ _ _ _ _ hv
      | join ha hg hp hq hc hb hn hJ => exact absurd hq (by simp [Tr.ks])
    | down hn hp h ha hg => exact absurd hn (by simp [nx, Tr.ks])

theorem shape1 {T : Tr} (h : Shape 1 T) : ∃ t c, Along kABC.data.toList T ([t] ++ [c]) ∧ valAt c kABC = none ∧ ∀ N v T', InsR N kABC v T T' → Shape 2 T' := by
  cases h with
  | one a g b hh v0 hv0 =>
    refine ⟨_, _, .go (c := .nd b kAB (some v0) [] hh) rfl (.stop rfl), rfl, fun N v T' hI => ?_⟩
    cases hI with
    | entry hn h => exact absurd hn (by simp [nx, Tr.ks, Tr.path, Tr.p])
    | down hn hp h ha hg =>
      have e : nx (.nd a kE none [.nd b kAB (some v0) [] hh] g) kABC.data.toList = some (.nd b kAB (some v0) [] hh) := rfl
      rw [e] at hn
      simp only [Option.some.injEq] at hn
      subst hn
      cases h with
      | entry hn h => cases h with
        | here ha hg hp => exact absurd (show (2 : Nat) = 3 from hp) (by decide)
        | leaf ha hg hl hgl hp hno => exact .two _ _ _ _ _ _ _ _ hv0
        | join ha hg hp hq hc hb hn hJ => exact absurd hq (by simp [Tr.ks])
      | down hn hp h ha hg => exact absurd hn (by simp [nx, Tr.ks])

theorem ext1 : kAX.extract 0 1 = kA := by decide
theorem shape2 {T : Tr} (h : Shape 2 T) : ∃ c, Along kAX.data.toList T ([] ++ [c]) ∧ valAt c kAX = none ∧ ∀ N v T', InsR N kAX v T T' → Shape 3 T' := by
  cases h with
  | two a g b h c i v0 u0 hv0 =>
    refine ⟨_, .stop rfl, rfl, fun N v T' hI => ?_⟩
    cases hI with
    | down hn hp h ha hg => exact absurd hn (by simp [nx, Tr.ks, Tr.path, Tr.p])
    | entry hn h => cases h with
      | here ha hg hp => exact absurd (show (0 : Nat) = 2 from hp) (by decide)
      | leaf ha hg hl hgl hp hno => exact absurd (show true = false from hno) (by decide)
      | @join a' g' cc J ha hg hp hq hc hb hn hJ =>
        have hc' : Tr.nd b kAB (some v0) [.nd c kABC (some u0) [] i] h = cc := hc
        subst hc'
        show Shape 3 (.nd a' kE none [J] g')
        cases hJ with
        | above ha hg hp hl => exact absurd (show (2 : Nat) < 2 from hl) (by decide)
        | @less m _ _ _ _ ha hg hl hgl h1 h2 he hlt =>
          exfalso
          match m, h1, hlt with
          | 0, _, hlt => exact absurd (show (97 : UInt8) < 97 from hlt) (by decide)
          | 1, _, hlt => exact absurd (show (120 : UInt8) < 98 from hlt) (by decide)
          | m + 2, h1, _ => have h1' : m + 2 < 2 := h1; omega
        | @more m a2 g2 l2 gl2 ha hg hl hgl h1 h2 he hlt =>
          match m, h1, hlt with
          | 0, _, hlt => exact absurd (show (97 : UInt8) < 97 from hlt) (by decide)
          | 1, _, hlt => rw [ext1]; exact .three _ _ _ _ _ _ _ _ _ _ _ _ _ hv0
          | m + 2, h1, _ => have h1' : m + 2 < 2 := h1; omega

abbrev kABD : ByteArray := ⟨#[97, 98, 100]⟩
abbrev kAY : ByteArray := ⟨#[97, 121]⟩
theorem shape3 {T : Tr} (h : Shape 3 T) : (∃ l, Along kABD.data.toList T l ∧ (best T l).p = kAB ∧ held (best T l).v = .int .i64 7 ∧ (best T l).v.isSome = true ∧ best T l ∈ l) ∧ ∃ t c, Along kAY.data.toList T ([t] ++ [c]) ∧ c.p = kA := by
  cases h with
  | three a g b h c i d j e m v u x hv =>
    refine ⟨⟨_, .go (c := .nd d kA none [.nd b kAB (some v) [.nd c kABC (some u) [] i] h, .nd e kAX (some x) [] m] j) rfl (.go (c := .nd b kAB (some v) [.nd c kABC (some u) [] i] h) rfl (.stop rfl)), rfl, hv, rfl, ?_⟩, _, _, .go (c := .nd d kA none [.nd b kAB (some v) [.nd c kABC (some u) [] i] h, .nd e kAX (some x) [] m] j) rfl (.stop rfl), rfl⟩
    show Tr.nd b kAB (some v) [.nd c kABC (some u) [] i] h ∈ _
    simp
end Go.Proofs.Ytcdfbbjakkmmoaa

/- Layer 3 (radix): what the document fixes of a tree of three entries. -/
namespace Go.Proofs.Ytcdfbbjakkmmoaa
open Go.RowKit
set_option linter.unusedVariables false

structure AI (w : World) (bS j tb : Nat) (T : Tr) (W : World) : Prop where
  below : Below w.heap.size w W
  strs : W.heap[bS]? = some (.cells #[.string kAB, .string kABC, .string kAX] 9)
  tree : TreeAt W tb T (j : Int)
  shape : Shape j T
  wf : WF T
  root : T.p = kE

theorem AI.next {w W W' : World} {bS j tb tb' : Nat} {T T' : Tr} {N : Nat} {k : ByteArray} {v : Vl} (h : AI w bS j tb T W) (hb : Below W.heap.size W W') (ht : TreeAt W' tb' T' ((j : Int) + 1)) (hi : InsR N k v T T') (hs : Shape (j + 1) T') : AI w bS (j + 1) tb' T' W' := by
  have hw := hi.wf h.wf (root_pre h.root _)
  exact ⟨h.below.trans (hb.mono h.below.size), (hb.block _ (lt_of_heap h.strs)).trans h.strs, by simpa using ht, hs, hw.1, hw.2.trans h.root⟩

set_option maxRecDepth 100000 in
set_option maxHeartbeats 3200000 in
theorem alive3_calls (w : World) : Calls Try.prog 6 #[] w fun e w' => e = .returned (.bool true) ∧ Below w.heap.size w w' := by
  go_enter Try.func6, Try.ntmps6
  go_wp2_with fail
  refine (newTree_calls w).mono ?_
  rintro e w1 ⟨tb, a, g, rfl, hb1, ht1, h1, h2, h3⟩
  have HL := len_calls tb _ 0 w1 ht1
  have HT1 : Hid (Below w.heap.size w w1 ∧ TreeAt w1 tb (.nd a kE none [] g) 0) := ⟨hb1, ht1⟩
  clear hb1 ht1
  go_wp2_with fail
  refine HL.mono ?_
  clear HL
  rintro e w2 ⟨rfl, rfl⟩
  go_wp2_with fail
  go_loopw [1, 20] (fun s1 i wr => ∃ (j tb' : Nat) (T : Tr), j ≤ 3 ∧ i = .int .i64 j ∧ s1 = .pointer (some ⟨tb', 0, none⟩) ∧ Hid (AI w w2.heap.size j tb' T wr)) (fun _ i _ => 3 - (intOf i).toNat)
  case atStart =>
    refine ⟨0, tb, .nd a kE none [] g, by omega, rfl, rfl, ?_⟩
    have hb : Below w2.heap.size w2 (w2.alloc (.cells #[.string kAB, .string kABC, .string kAX] 9)) := (Below.refl _ _).alloc (Nat.le_refl _) _
    exact ⟨HT1.out.1.trans (hb.mono HT1.out.1.size), heap_alloc_new _ _, HT1.out.2.keep hb, .zero _ _, leaf_wf _ _ _ _, rfl⟩
  case round =>
    obtain ⟨j, tb', T, hj, rfl, rfl, HI⟩ := hrel
    have cS : ∀ i, wr.cell? ⟨w2.heap.size, i, none⟩ = #[Value.string kAB, .string kABC, .string kAX][i]? := fun i => by rw [cell_of_blk HI.out.strs]
    rcases Nat.lt_or_ge j 3 with hlt | hge
    · rcases (show j = 0 ∨ j = 1 ∨ j = 2 by omega) with rfl | rfl | rfl
      · have s0 : wr.cell? ⟨w2.heap.size, 0, none⟩ = some (.string kAB) := cS 0
        clear cS
        obtain ⟨c, hA, hv, hn⟩ := shape0 HI.out.shape
        have HC := insert_calls tb' T 0 kAB 7 wr [] c HI.out.tree HI.out.wf (root_pre HI.out.root _) (by decide) hA (by simp) (by decide) (by decide)
        have HN : Hid (∀ N v T', v7 v → InsR N kAB v T T' → Shape 1 T') := hn
        have HV : Hid (valAt c kAB = none) := hv
        clear hA hn hv
        go_wp2_with fail
        refine HC.mono ?_
        clear HC
        rintro e w3 ⟨tb2, T2, va, vg, rfl, hb3, ht3, hi3, -, -, -⟩
        rw [HV.out] at ht3
        have HI2 : Hid (AI w w2.heap.size 1 tb2 T2 w3) := HI.out.next hb3 ht3 hi3 (HN.out _ _ _ (show v7 ⟨va, .int .i64 7, vg⟩ from rfl) hi3)
        clear hb3 ht3 hi3 HI HN
        rw [HV.out]
        go_wp2_with fail
        go_roundw
        case rel => exact ⟨1, tb2, T2, by omega, by go_num, rfl, HI2⟩
        case measure => simp [intOf]
      · have s0 : wr.cell? ⟨w2.heap.size, 1, none⟩ = some (.string kABC) := cS 1
        clear cS
        obtain ⟨t0, c, hA, hv, hn⟩ := shape1 HI.out.shape
        have HC := insert_calls tb' T 1 kABC 8 wr [t0] c HI.out.tree HI.out.wf (root_pre HI.out.root _) (by decide) hA (by simp) (by decide) (by decide)
        have HN : Hid (∀ N v T', InsR N kABC v T T' → Shape 2 T') := hn
        have HV : Hid (valAt c kABC = none) := hv
        clear hA hn hv
        go_wp2_with fail
        refine HC.mono ?_
        clear HC
        rintro e w3 ⟨tb2, T2, va, vg, rfl, hb3, ht3, hi3, -, -, -⟩
        rw [HV.out] at ht3
        have HI2 : Hid (AI w w2.heap.size 2 tb2 T2 w3) := HI.out.next hb3 ht3 hi3 (HN.out _ _ _ hi3)
        clear hb3 ht3 hi3 HI HN
        rw [HV.out]
        go_wp2_with fail
        go_roundw
        case rel => exact ⟨2, tb2, T2, by omega, by go_num, rfl, HI2⟩
        case measure => simp [intOf]
      · have s0 : wr.cell? ⟨w2.heap.size, 2, none⟩ = some (.string kAX) := cS 2
        clear cS
        obtain ⟨c, hA, hv, hn⟩ := shape2 HI.out.shape
        have HC := insert_calls tb' T 2 kAX 9 wr [] c HI.out.tree HI.out.wf (root_pre HI.out.root _) (by decide) hA (by simp) (by decide) (by decide)
        have HN : Hid (∀ N v T', InsR N kAX v T T' → Shape 3 T') := hn
        have HV : Hid (valAt c kAX = none) := hv
        clear hA hn hv
        go_wp2_with fail
        refine HC.mono ?_
        clear HC
        rintro e w3 ⟨tb2, T2, va, vg, rfl, hb3, ht3, hi3, -, -, -⟩
        rw [HV.out] at ht3
        have HI2 : Hid (AI w w2.heap.size 3 tb2 T2 w3) := HI.out.next hb3 ht3 hi3 (HN.out _ _ _ hi3)
        clear hb3 ht3 hi3 HI HN
        rw [HV.out]
        go_wp2_with fail
        go_roundw
        case rel => exact ⟨3, tb2, T2, by omega, by go_num, rfl, HI2⟩
        case measure => simp [intOf]
    · have hj3 : j = 3 := by omega
      subst hj3
      clear cS
      obtain ⟨⟨l, hA, hbp, hbv, hbs, hbm⟩, t0, c, hA2, hcp⟩ := shape3 HI.out.shape
      have HLG := longest_tree tb' T 3 kABD wr l HI.out.tree HI.out.wf (root_pre HI.out.root _) (by decide) hA (along_tat hA HI.out.tree.tat _ hbm)
      rw [hbp, hbv, hbs] at HLG
      have HRC := fun W (h : Below wr.heap.size wr W) => reach_tree tb' T 3 kAY W [t0] c (HI.out.tree.keep h) HI.out.wf (root_pre HI.out.root _) (by decide) hA2
      rw [hcp] at HRC
      have HRC' : Hid (∀ W, Below wr.heap.size wr W → _) := HRC
      clear hA hbp hbv hbs hbm hA2 hcp HRC
      go_wp2_with fail
      refine HLG.mono ?_
      clear HLG
      rintro e w3 ⟨rfl, hb3⟩
      have HLN := len_calls tb' T 3 w3 (HI.out.tree.keep hb3)
      have HR := HRC'.out w3 hb3
      have HB3 : Hid (Below wr.heap.size wr w3) := hb3
      clear hb3 HRC'
      go_wp2_with fail
      refine HLN.mono ?_
      clear HLN
      rintro e w4 ⟨rfl, rfl⟩
      go_wp2_with fail
      refine HR.mono ?_
      clear HR
      rintro e w5 ⟨rfl, hb5⟩
      have HB5 : Hid (Below w.heap.size w w5) := by
        have h1 := HI.out.below
        have h2 := HB3.out
        exact (h1.trans (h2.mono h1.size)).trans (hb5.mono (Nat.le_trans h1.size h2.size))
      clear hb5
      go_wp2_with fail
      go_ret
      exact ⟨rfl, HB5.out⟩
end Go.Proofs.Ytcdfbbjakkmmoaa
