/- Layer 3 (radix): what the document fixes of a tree of three entries. -/
import Derived.Test.YtedgaiblcpekaaaRShape
namespace Go.Proofs.Ytedgaiblcpekaaa
open Go.RowKit
set_option linter.unusedVariables false

structure AI (w : World) (bS j tb : Nat) (T : Tr) (W : World) : Prop where
  below : Below w.heap.size w W
  strs : W.heap[bS]? = some (.cells #[.string kAB, .string kABC, .string kAX] 9)
  tree : TreeAt W tb T (j : Int)
  shape : Shape j T
  wf : WF T
  root : T.p = kE

theorem root_pre {T : Tr} (h : T.p = kE) (k : List UInt8) : T.path <+: k := by
  unfold Tr.path; rw [h]; exact List.nil_prefix

theorem AI.next {w W W' : World} {bS j tb tb' : Nat} {T T' : Tr} {N : Nat} {k : ByteArray} {v : Vl} (h : AI w bS j tb T W) (hb : Below W.heap.size W W') (ht : TreeAt W' tb' T' ((j : Int) + 1)) (hi : InsR N k v T T') (hs : Shape (j + 1) T') : AI w bS (j + 1) tb' T' W' := by
  have hw := hi.wf h.wf (root_pre h.root _)
  exact ⟨h.below.trans (hb.mono h.below.size), (hb.block _ (lt_of_heap h.strs)).trans h.strs, by simpa using ht, hs, hw.1, hw.2.trans h.root⟩

set_option maxRecDepth 100000 in
set_option maxHeartbeats 3200000 in
theorem alive3_calls (w : World) : Calls Try.prog 9 #[] w fun e w' => e = .returned (.bool true) ∧ Below w.heap.size w w' := by
  go_enter Try.func9, Try.ntmps9
  go_wp2_with fail
  refine (newTree_calls w).mono ?_
  rintro e w1 ⟨tb, a, g, rfl, hb1, ht1, h1, h2, h3⟩
  have HL := len_calls tb _ 0 w1 ht1
  have HT1 : Hid (Below w.heap.size w w1 ∧ TreeAt w1 tb (.nd a kE none [] g) 0) := ⟨hb1, ht1⟩
  clear hb1 ht1
  go_wp2_with fail
  refine HL.mono ?_
  clear HL
  rintro e w2 ⟨rfl, rfl⟩
  go_wp2_with fail
  go_loopw [1, 20] (fun s1 i wr => ∃ (j tb' : Nat) (T : Tr), j ≤ 3 ∧ i = .int .i64 j ∧ s1 = .pointer (some ⟨tb', 0, none⟩) ∧ Hid (AI w w2.heap.size j tb' T wr)) (fun _ i _ => 3 - (intOf i).toNat)
  case atStart =>
    refine ⟨0, tb, .nd a kE none [] g, by omega, rfl, rfl, ?_⟩
    have hb : Below w2.heap.size w2 (w2.alloc (.cells #[.string kAB, .string kABC, .string kAX] 9)) := (Below.refl _ _).alloc (Nat.le_refl _) _
    exact ⟨HT1.out.1.trans (hb.mono HT1.out.1.size), heap_alloc_new _ _, HT1.out.2.keep hb, .zero _ _, leaf_wf _ _ _ _, rfl⟩
  case round =>
    obtain ⟨j, tb', T, hj, rfl, rfl, HI⟩ := hrel
    have cS : ∀ i, wr.cell? ⟨w2.heap.size, i, none⟩ = #[Value.string kAB, .string kABC, .string kAX][i]? := fun i => by rw [cell_of_blk HI.out.strs]
    rcases Nat.lt_or_ge j 3 with hlt | hge
    · rcases (show j = 0 ∨ j = 1 ∨ j = 2 by omega) with rfl | rfl | rfl
      · have s0 : wr.cell? ⟨w2.heap.size, 0, none⟩ = some (.string kAB) := cS 0
        clear cS
        obtain ⟨c, hA, hv, hn⟩ := shape0 HI.out.shape
        have HC := insert_calls tb' T 0 kAB 7 wr [] c HI.out.tree HI.out.wf (root_pre HI.out.root _) (by decide) hA (by simp) (by decide) (by decide)
        have HN : Hid (∀ N v T', v7 v → InsR N kAB v T T' → Shape 1 T') := hn
        have HV : Hid (valAt c kAB = none) := hv
        clear hA hn hv
        go_wp2_with fail
        refine HC.mono ?_
        clear HC
        rintro e w3 ⟨tb2, T2, va, vg, rfl, hb3, ht3, hi3, -, -, -⟩
        rw [HV.out] at ht3
        have HI2 : Hid (AI w w2.heap.size 1 tb2 T2 w3) := HI.out.next hb3 ht3 hi3 (HN.out _ _ _ (show v7 ⟨va, .int .i64 7, vg⟩ from rfl) hi3)
        clear hb3 ht3 hi3 HI HN
        rw [HV.out]
        go_wp2_with fail
        go_roundw
        case rel => exact ⟨1, tb2, T2, by omega, by go_num, rfl, HI2⟩
        case measure => simp [intOf]
      · have s0 : wr.cell? ⟨w2.heap.size, 1, none⟩ = some (.string kABC) := cS 1
        clear cS
        obtain ⟨t0, c, hA, hv, hn⟩ := shape1 HI.out.shape
        have HC := insert_calls tb' T 1 kABC 8 wr [t0] c HI.out.tree HI.out.wf (root_pre HI.out.root _) (by decide) hA (by simp) (by decide) (by decide)
        have HN : Hid (∀ N v T', InsR N kABC v T T' → Shape 2 T') := hn
        have HV : Hid (valAt c kABC = none) := hv
        clear hA hn hv
        go_wp2_with fail
        refine HC.mono ?_
        clear HC
        rintro e w3 ⟨tb2, T2, va, vg, rfl, hb3, ht3, hi3, -, -, -⟩
        rw [HV.out] at ht3
        have HI2 : Hid (AI w w2.heap.size 2 tb2 T2 w3) := HI.out.next hb3 ht3 hi3 (HN.out _ _ _ hi3)
        clear hb3 ht3 hi3 HI HN
        rw [HV.out]
        go_wp2_with fail
        go_roundw
        case rel => exact ⟨2, tb2, T2, by omega, by go_num, rfl, HI2⟩
        case measure => simp [intOf]
      · have s0 : wr.cell? ⟨w2.heap.size, 2, none⟩ = some (.string kAX) := cS 2
        clear cS
        obtain ⟨c, hA, hv, hn⟩ := shape2 HI.out.shape
        have HC := insert_calls tb' T 2 kAX 9 wr [] c HI.out.tree HI.out.wf (root_pre HI.out.root _) (by decide) hA (by simp) (by decide) (by decide)
        have HN : Hid (∀ N v T', InsR N kAX v T T' → Shape 3 T') := hn
        have HV : Hid (valAt c kAX = none) := hv
        clear hA hn hv
        go_wp2_with fail
        refine HC.mono ?_
        clear HC
        rintro e w3 ⟨tb2, T2, va, vg, rfl, hb3, ht3, hi3, -, -, -⟩
        rw [HV.out] at ht3
        have HI2 : Hid (AI w w2.heap.size 3 tb2 T2 w3) := HI.out.next hb3 ht3 hi3 (HN.out _ _ _ hi3)
        clear hb3 ht3 hi3 HI HN
        rw [HV.out]
        go_wp2_with fail
        go_roundw
        case rel => exact ⟨3, tb2, T2, by omega, by go_num, rfl, HI2⟩
        case measure => simp [intOf]
    · have hj3 : j = 3 := by omega
      subst hj3
      clear cS
      obtain ⟨⟨l, hA, hbp, hbv, hbs, hbm⟩, t0, c, hA2, hcp⟩ := shape3 HI.out.shape
      have HLG := longest_tree tb' T 3 kABD wr l HI.out.tree HI.out.wf (root_pre HI.out.root _) (by decide) hA (along_tat hA HI.out.tree.tat _ hbm)
      rw [hbp, hbv, hbs] at HLG
      have HRC := fun W (h : Below wr.heap.size wr W) => reach_tree tb' T 3 kAY W [t0] c (HI.out.tree.keep h) HI.out.wf (root_pre HI.out.root _) (by decide) hA2
      rw [hcp] at HRC
      have HRC' : Hid (∀ W, Below wr.heap.size wr W → _) := HRC
      clear hA hbp hbv hbs hbm hA2 hcp HRC
      go_wp2_with fail
      refine HLG.mono ?_
      clear HLG
      rintro e w3 ⟨rfl, hb3⟩
      have HLN := len_calls tb' T 3 w3 (HI.out.tree.keep hb3)
      have HR := HRC'.out w3 hb3
      have HB3 : Hid (Below wr.heap.size wr w3) := hb3
      clear hb3 HRC'
      go_wp2_with fail
      refine HLN.mono ?_
      clear HLN
      rintro e w4 ⟨rfl, rfl⟩
      go_wp2_with fail
      refine HR.mono ?_
      clear HR
      rintro e w5 ⟨rfl, hb5⟩
      have HB5 : Hid (Below w.heap.size w w5) := by
        have h1 := HI.out.below
        have h2 := HB3.out
        exact (h1.trans (h2.mono h1.size)).trans (hb5.mono (Nat.le_trans h1.size h2.size))
      clear hb5
      go_wp2_with fail
      go_ret
      exact ⟨rfl, HB5.out⟩
end Go.Proofs.Ytedgaiblcpekaaa
