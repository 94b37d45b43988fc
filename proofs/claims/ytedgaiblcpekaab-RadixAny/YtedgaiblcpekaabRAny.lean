/- The walk of RadixAny. -/
import Derived.Test.YtedgaiblcpekaabRBuilt
import Derived.Test.YtedgaiblcpekaabRVS
import Derived.Test.YtedgaiblcpekaabRVPb
import Derived.Lib.ConvBytes
namespace Go.Proofs.Ytedgaiblcpekaab
open Go.RowKit
set_option linter.unusedVariables false

/-- Two bytes of a number, as a text. -/
def txt (i : Nat) : ByteArray := ⟨[UInt8.ofNat (i % 256), UInt8.ofNat (i / 256 % 256)].toArray⟩
def fI (i : Nat) (_ : ByteArray) : Value := .int .i64 (i : Int)
def fS (i : Nat) (_ : ByteArray) : Value := .string (txt i)
def fP (i : Nat) (p : ByteArray) : Value := .agg #[.string (txt i), .string p]

theorem conv_txt (W : World) (j : Nat) : (convert 43 9 (.slice (some ⟨W.heap.size, 0, none⟩) 2 2)).run Try.prog (W.alloc (.cells #[.int .u8 ((j : Int) % 256), .int .u8 ((j : Int) / 256 % 256)] 5)) = .ok (.string (txt j)) (W.alloc (.cells #[.int .u8 ((j : Int) % 256), .int .u8 ((j : Int) / 256 % 256)] 5)) := by
  refine run_convert_bytes_back (P := Try.prog) _ 43 9 5 ⟨W.heap.size, 0, none⟩ 2 [UInt8.ofNat (j % 256), UInt8.ofNat (j / 256 % 256)] Try.underlying43 Try.underlying5 Try.underlying9 ?_
  intro i hi
  have hadd : (⟨W.heap.size, 0, none⟩ : Addr).add i = ⟨W.heap.size, i, none⟩ := by unfold Addr.add; split <;> simp_all
  rw [hadd, World.cell?_alloc_mark]
  match i, hi with
  | 0, _ => simp only [List.getElem_cons_zero, UInt8.toNat_ofNat']; simp
  | 1, _ => simp only [List.getElem_cons_succ, List.getElem_cons_zero, UInt8.toNat_ofNat']; simp
  | n + 2, h => simp at h; omega

structure AnyI (w W : World) (ks : List ByteArray) (j tT tS tP : Nat) (A B C : Tr) (nA nB nC : Int) : Prop where
  below : Below w.heap.size w W
  trT : TreeAt W tT A nA
  trS : S.TreeAt W tS B nB
  trP : P.TreeAt W tP C nC
  chT : Chain fI ks A nA
  chS : Chain fS (ks.take j) B nB
  chP : Chain fP (ks.take j) C nC

theorem best_or {T : Tr} {l : List Tr} {k : List UInt8} (hw : WF T) (h : Along k T l) : best T l = T ∨ best T l ∈ l := by
  rcases best_spec l T (h.inc hw).1 with ⟨h1, _⟩ | ⟨h1, _⟩
  · exact .inl h1
  · exact .inr h1

/-- All that the law's end wants of the three trees. -/
structure AnyD (k : ByteArray) (A B C : Tr) (l m q : List Tr) (cA cB cC : Tr) : Prop where
  aA : Along k.data.toList A (l ++ [cA])
  aB : Along k.data.toList B (m ++ [cB])
  aC : Along k.data.toList C (q ++ [cC])
  pB : cB.p = cA.p
  pC : cC.p = cA.p
  bB : (best B (m ++ [cB])).p = (best A (l ++ [cA])).p
  bC : (best C (q ++ [cC])).p = (best A (l ++ [cA])).p
  val : ((best A (l ++ [cA])).v = none ∧ (best B (m ++ [cB])).v = none ∧ (best C (q ++ [cC])).v = none ∧ (best A (l ++ [cA])).p = kE) ∨
    ∃ x y z i, (best A (l ++ [cA])).v = some x ∧ x.x = .int .i64 ((i : Nat) : Int) ∧ (best B (m ++ [cB])).v = some y ∧ y.x = .string (txt i) ∧ (best C (q ++ [cC])).v = some z ∧ z.x = .agg #[.string (txt i), .string (best A (l ++ [cA])).p]

theorem any_data {ks : List ByteArray} {A B C : Tr} {nA nB nC : Int} (hA : Chain fI ks A nA) (hB : Chain fS ks B nB) (hC : Chain fP ks C nC) (k : ByteArray) : ∃ l m q cA cB cC, AnyD k A B C l m q cA cB cC ∧ nB = nA ∧ nC = nA := by
  obtain ⟨wA, rA, -⟩ := hA.wf
  obtain ⟨wB, rB, -⟩ := hB.wf
  obtain ⟨wC, rC, -⟩ := hC.wf
  obtain ⟨sB, nB'⟩ := chain_sim hA hB
  obtain ⟨sC, nC'⟩ := chain_sim hA hC
  obtain ⟨l, cA, aA⟩ := along_split (k := k.data.toList) wA
  obtain ⟨m, cB, aB⟩ := along_split (k := k.data.toList) wB
  obtain ⟨q, cC, aC⟩ := along_split (k := k.data.toList) wC
  have lB := along_sim aA aB sB wA wB
  have lC := along_sim aA aC sC wA wC
  have tB := best_sim _ _ lB sB
  have tC := best_sim _ _ lC sC
  refine ⟨l, m, q, cA, cB, cC, ⟨aA, aB, aC, (simL_last lB).p.symm, (simL_last lC).p.symm, tB.p.symm, tC.p.symm, ?_⟩, nB'.symm, nC'.symm⟩
  have vB := tB.v
  have vC := tC.v
  cases hv : (best A (l ++ [cA])).v with
  | none =>
    rw [hv] at vB vC
    cases hb : (best B (m ++ [cB])).v with
    | some y => rw [hb] at vB; exact vB.elim
    | none =>
      cases hc : (best C (q ++ [cC])).v with
      | some z => rw [hc] at vC; exact vC.elim
      | none =>
        refine .inl ⟨rfl, rfl, rfl, ?_⟩
        rcases best_spec _ A (aA.inc wA).1 with ⟨h1, _⟩ | ⟨_, h2, _⟩
        · rw [h1]; exact rA
        · rw [hv] at h2; cases h2
  | some x =>
    rw [hv] at vB vC
    cases hb : (best B (m ++ [cB])).v with
    | none => rw [hb] at vB; exact vB.elim
    | some y =>
      cases hc : (best C (q ++ [cC])).v with
      | none => rw [hc] at vC; exact vC.elim
      | some z =>
        rw [hb] at vB
        rw [hc] at vC
        obtain ⟨i, h1, h2⟩ := vB
        obtain ⟨i', h3, h4⟩ := vC
        have hi : i' = i := by
          rw [h1] at h3
          simp only [fI, Value.int.injEq, true_and] at h3
          omega
        subst hi
        exact .inr ⟨x, y, z, i', rfl, h1, rfl, h2, rfl, h4⟩

set_option maxRecDepth 100000 in
set_option maxHeartbeats 6400000 in
theorem any_walk (ao : Option Addr) (cap : Nat) (ks : List ByteArray) (k : ByteArray) (w : World) (hk : StrsAt w ao ks) (hl : ks.length ≤ 8796093022208) (hks : k.size ≤ 140737488351232) :
    Calls Try.prog 4 #[.slice ao ks.length cap, .string k] w fun e w' => e = .returned (.bool true) ∧ Below w.heap.size w w' := by
  have hnot : ∀ (x : Bool) (w : World), (Op.unary .not (.bool x)).run Try.prog w = .ok (.bool (!x)) w := fun _ _ => rfl
  go_enter Try.func4, Try.ntmps4
  go_wp2_with fail
  refine (alive3_calls w).mono ?_
  rintro e w1 ⟨rfl, hb1⟩
  have HBU := built_calls ao cap ks w1 (hk.below hb1) hl
  have HB1 : Hid (Below w.heap.size w w1) := hb1
  clear hb1
  go_wp2_with fail
  refine HBU.mono ?_
  clear HBU
  rintro e w2 ⟨tT, A, nA, rfl, hG0, hC0⟩
  have HT2 : Hid (Below w.heap.size w w2 ∧ TreeAt w2 tT A nA ∧ Chain fI ks A nA) := ⟨HB1.out.trans (hG0.below.mono HB1.out.size), hG0.tree, hC0⟩
  clear hG0 hC0 HB1
  go_wp2_with fail
  refine (S.newTree_calls w2).mono ?_
  rintro e w3 ⟨tS, a3, g3, rfl, hb3, ht3, -, -, -⟩
  have HT3 : Hid (Below w2.heap.size w2 w3 ∧ S.TreeAt w3 tS (.nd a3 kE none [] g3) 0) := ⟨hb3, ht3⟩
  clear hb3 ht3
  go_wp2_with fail
  refine (P.newTree_calls w3).mono ?_
  rintro e w4 ⟨tP, a4, g4, rfl, hb4, ht4, -, -, -⟩
  have HI4 : Hid (AnyI w w4 ks 0 tT tS tP A (.nd a3 kE none [] g3) (.nd a4 kE none [] g4) nA 0 0) := by
    obtain ⟨h1, h2, h3⟩ := HT2.out
    obtain ⟨h4, h5⟩ := HT3.out
    have h24 := h4.trans (hb4.mono h4.size)
    exact ⟨h1.trans (h24.mono h1.size), h2.keep h24, h5.keep hb4, ht4, h3, by rw [List.take_zero]; exact .nil _ _, by rw [List.take_zero]; exact .nil _ _⟩
  clear hb4 ht4 HT2 HT3
  go_wp2_with fail
  go_loopw [6, 7, 29] (fun s6 s7 i wr => ∃ (j tS tP : Nat) (B C : Tr) (nB nC : Int), j ≤ ks.length ∧ i = .int .i64 j ∧ s6 = .pointer (some ⟨tS, 0, none⟩) ∧ s7 = .pointer (some ⟨tP, 0, none⟩) ∧ Hid (AnyI w wr ks j tT tS tP A B C nA nB nC)) (fun _ _ i _ => ks.length - (intOf i).toNat)
  case atStart => exact ⟨0, tS, tP, _, _, 0, 0, Nat.zero_le _, rfl, rfl, rfl, HI4⟩
  case round =>
    clear HI4
    obtain ⟨j, tS2, tP2, B, C, nB, nC, hj, rfl, rfl, rfl, HI⟩ := hrel
    by_cases hlt : j < ks.length
    · obtain ⟨b, off, rfl, hc, hsz⟩ := (hk.below HI.out.below) j hlt
      have hcv := conv_txt wr j
      obtain ⟨w5, HW5⟩ : ∃ w5, Hid (w5 = wr.alloc (.cells #[.int .u8 ((j : Int) % 256), .int .u8 ((j : Int) / 256 % 256)] 5)) := ⟨_, rfl⟩
      have hb5 : Below wr.heap.size wr w5 := by rw [HW5.out]; exact (Below.refl _ _).alloc (Nat.le_refl _) _
      obtain ⟨wfB, rB, dB, loB, hiB⟩ := HI.out.chS.wf
      obtain ⟨wfC, rC, dC, loC, hiC⟩ := HI.out.chP.wf
      have htk : (ks.take j).length = j := by simp; omega
      rw [htk] at dB hiB dC hiC
      obtain ⟨iB, cB, hAB⟩ := along_split (k := ks[j].data.toList) wfB
      obtain ⟨iC, cC, hAC⟩ := along_split (k := ks[j].data.toList) wfC
      have lB := hAB.len dB
      have lC := hAC.len dC
      have HCS := S.insert_calls tS2 B nB ks[j] (txt j) w5 iB cB (HI.out.trS.keep hb5) wfB (root_pre rB _) hsz hAB (by simp at lB; omega) loB (by omega)
      have HB5 : Hid (Below wr.heap.size wr w5) := hb5
      have HPP := fun (W : World) (hW : Below w5.heap.size w5 W) => P.insert_calls tP2 C nC ks[j] (txt j) ks[j] W iC cC ((HI.out.trP.keep HB5.out).keep hW) wfC (root_pre rC _) hsz hAC (by simp at lC; omega) loC (by omega)
      have HAB : Hid (Along ks[j].data.toList B (iB ++ [cB]) ∧ Along ks[j].data.toList C (iC ++ [cC])) := ⟨hAB, hAC⟩
      clear hb5 wfB rB dB loB hiB wfC rC dC loC hiC hAB hAC lB lC hsz
      go_wp2_with fail
      rw [← HW5.out]
      refine HCS.mono ?_
      clear HCS
      rintro e w6 ⟨tS3, B3, va3, vg3, rfl, hb6, ht6, hi6, -, -, -⟩
      have HCP := HPP w6 hb6
      have H6 : Hid (Below w5.heap.size w5 w6 ∧ S.TreeAt w6 tS3 B3 (nB + plusNew (valAt cB ks[j])) ∧ InsR w5.heap.size ks[j] ⟨va3, .string (txt j), vg3⟩ B B3) := ⟨hb6, ht6, hi6⟩
      clear hb6 ht6 hi6 HPP hcv HW5
      go_wp2_with fail
      refine HCP.mono ?_
      clear HCP
      rintro e w7 ⟨tP3, C3, va4, vg4, x4, y4, rfl, hb7, ht7, hi7, -, -, -⟩
      have HI7 : Hid (AnyI w w7 ks (j + 1) tT tS3 tP3 A B3 C3 nA (nB + plusNew (valAt cB ks[j])) (nC + plusNew (valAt cC ks[j]))) := by
        obtain ⟨g1, g2, g3⟩ := H6.out
        have hI := HI.out
        have h57 := g1.trans (hb7.mono g1.size)
        have hr7 := HB5.out.trans (h57.mono HB5.out.size)
        refine ⟨hI.below.trans (hr7.mono hI.below.size), hI.trT.keep hr7, g2.keep hb7, ht7, hI.chT, ?_, ?_⟩
        · rw [List.take_succ_eq_append_getElem hlt]
          exact .snoc hI.chS (by simp only [htk]; rfl) HAB.out.1 g3
        · rw [List.take_succ_eq_append_getElem hlt]
          exact .snoc hI.chP (by simp only [htk]; rfl) HAB.out.2 hi7
      clear hb7 ht7 hi7 H6 HAB HI HB5 htk
      go_wp2_with fail
      go_roundw
      case rel => exact ⟨j + 1, tS3, tP3, B3, C3, _, _, by omega, by go_num, rfl, rfl, HI7⟩
      case measure => simp [intOf]; omega
    · have hjl : j = ks.length := by omega
      subst hjl
      have hI := HI.out
      have chS := hI.chS
      have chP := hI.chP
      rw [List.take_length] at chS chP
      obtain ⟨l, m, q, cA, cB, cC, D, e1, e2⟩ := any_data hI.chT chS chP k
      obtain ⟨wA, rA, -⟩ := hI.chT.wf
      obtain ⟨wB, rB, -⟩ := chS.wf
      obtain ⟨wC, rC, -⟩ := chP.wf
      subst e1 e2
      have tbA : TAt nR wr (best A (l ++ [cA])) := by
        rcases best_or wA D.aA with h | h
        · rw [h]; exact hI.trT.tat
        · exact along_tat D.aA hI.trT.tat _ h
      have tbB : S.TAt nR wr (best B (m ++ [cB])) := by
        rcases best_or wB D.aB with h | h
        · rw [h]; exact hI.trS.tat
        · exact S.along_tat D.aB hI.trS.tat _ h
      have tbC : P.TAt nR wr (best C (q ++ [cC])) := by
        rcases best_or wC D.aC with h | h
        · rw [h]; exact hI.trP.tat
        · exact P.along_tat D.aC hI.trP.tat _ h
      have L1 := longest_tree tT A _ k wr _ hI.trT wA (root_pre rA _) hks D.aA tbA
      have L2 := fun (W : World) (hW : Below wr.heap.size wr W) => S.longest_tree tS2 B _ k W _ (hI.trS.keep hW) wB (root_pre rB _) hks D.aB (tbB.keep hW)
      have L3 := fun (W : World) (hW : Below wr.heap.size wr W) => P.longest_tree tP2 C _ k W _ (hI.trP.keep hW) wC (root_pre rC _) hks D.aC (tbC.keep hW)
      have R1 := fun (W : World) (hW : Below wr.heap.size wr W) => reach_tree tT A _ k W _ _ (hI.trT.keep hW) wA (root_pre rA _) hks D.aA
      have R2 := fun (W : World) (hW : Below wr.heap.size wr W) => S.reach_tree tS2 B _ k W _ _ (hI.trS.keep hW) wB (root_pre rB _) hks D.aB
      have R3 := fun (W : World) (hW : Below wr.heap.size wr W) => P.reach_tree tP2 C _ k W _ _ (hI.trP.keep hW) wC (root_pre rC _) hks D.aC
      have N1 := fun (W : World) (hW : Below wr.heap.size wr W) => len_calls tT A _ W (hI.trT.keep hW)
      have N2 := fun (W : World) (hW : Below wr.heap.size wr W) => S.len_calls tS2 B _ W (hI.trS.keep hW)
      rw [D.bB] at L2
      rw [D.bC] at L3
      rw [D.pB] at R2
      rw [D.pC] at R3
      have HBW : Hid (Below w.heap.size w wr) := hI.below
      have hval := D.val
      clear D chS chP wA rA wB rB wC rC tbA tbB tbC hI HI hk
      revert L1 L2 L3 hval
      generalize (best A (l ++ [cA])) = bA
      generalize (best B (m ++ [cB])) = bB
      generalize (best C (q ++ [cC])) = bC
      intro L1 L2 L3 hval
      rcases hval with ⟨v1, v2, v3, hp⟩ | ⟨x, y, z, i, v1, x1, v2, y1, v3, z1⟩
      · rw [v1, hp] at L1
        rw [v2, hp] at L2
        rw [v3, hp] at L3
        simp only [held, S.held, P.held, Option.isSome_none] at L1 L2 L3
        clear v1 v2 v3 hp R1 R2 R3 N1 N2
        go_wp2_with fail
        refine L1.mono ?_
        clear L1
        rintro e w5 ⟨rfl, hb5⟩
        have L2' := L2 w5 hb5
        have HB5 : Hid (Below wr.heap.size wr w5) := hb5
        clear L2 hb5
        go_wp2_with fail
        refine L2'.mono ?_
        clear L2'
        rintro e w6 ⟨rfl, hb6⟩
        have HB6 : Hid (Below wr.heap.size wr w6) := HB5.out.trans (hb6.mono HB5.out.size)
        have L3' := L3 w6 HB6.out
        clear L3 hb6
        go_wp2_with fail
        refine L3'.mono ?_
        clear L3'
        rintro e w7 ⟨rfl, hb7⟩
        have HB7 : Hid (Below w.heap.size w w7) := by
          have h1 := HBW.out
          have h2 := HB6.out.trans (hb7.mono HB6.out.size)
          exact h1.trans (h2.mono h1.size)
        clear hb7
        go_wp2_with fail
        go_ret
        exact ⟨rfl, HB7.out.alloc HB7.out.size _⟩
      · obtain ⟨bp, HBP⟩ : ∃ bp, Hid (bp = bA.p) := ⟨_, rfl⟩
        rw [v1, ← HBP.out] at L1
        rw [v2, ← HBP.out] at L2
        rw [v3, ← HBP.out] at L3
        rw [← HBP.out] at z1
        simp only [held, S.held, P.held, Option.isSome_some, x1, y1, z1] at L1 L2 L3
        clear v1 v2 v3 x1 y1 z1 HBP
        go_wp2_with fail
        refine L1.mono ?_
        clear L1
        rintro e w5 ⟨rfl, hb5⟩
        have L2' := L2 w5 hb5
        have HB5 : Hid (Below wr.heap.size wr w5) := hb5
        clear L2 hb5
        go_wp2_with fail
        refine L2'.mono ?_
        clear L2'
        rintro e w6 ⟨rfl, hb6⟩
        have HB6 : Hid (Below wr.heap.size wr w6) := HB5.out.trans (hb6.mono HB5.out.size)
        have L3' := L3 w6 HB6.out
        clear L3 hb6 HB5
        go_wp2_with fail
        refine L3'.mono ?_
        clear L3'
        rintro e w7 ⟨rfl, hb7⟩
        have hcv := conv_txt (w7.alloc (.cells #[.string (txt i), .string bp] 41)) i
        rw [World.size_alloc] at hcv
        obtain ⟨w8, HW8⟩ : ∃ w8, Hid (w8 = (w7.alloc (.cells #[.string (txt i), .string bp] 41)).alloc (.cells #[.int .u8 ((i : Int) % 256), .int .u8 ((i : Int) / 256 % 256)] 5)) := ⟨_, rfl⟩
        have h78 : Below w7.heap.size w7 w8 := by rw [HW8.out]; exact ((Below.refl _ _).alloc (Nat.le_refl _) _).alloc (by simp [World.size_alloc]) _
        have h67 : Below wr.heap.size wr w7 := HB6.out.trans (hb7.mono HB6.out.size)
        have h68 : Below wr.heap.size wr w8 := h67.trans (h78.mono h67.size)
        have HB8 : Hid (Below wr.heap.size wr w8) := h68
        have R2' := R2 w8 h68
        clear hb7 h78 h67 h68 R2 HB6
        go_wp2_with fail
        rw [← HW8.out]
        refine R2'.mono ?_
        clear R2' HW8 hcv
        rintro e w9 ⟨rfl, hb9⟩
        have HB9 : Hid (Below wr.heap.size wr w9) := HB8.out.trans (hb9.mono HB8.out.size)
        have R1' := R1 w9 HB9.out
        clear hb9 HB8
        go_wp2_with fail
        refine R1'.mono ?_
        clear R1'
        rintro e w10 ⟨rfl, hb10⟩
        have HB10 : Hid (Below wr.heap.size wr w10) := HB9.out.trans (hb10.mono HB9.out.size)
        have R3' := R3 w10 HB10.out
        clear hb10 HB9 R3
        go_wp2_with fail
        refine R3'.mono ?_
        clear R3'
        rintro e w11 ⟨rfl, hb11⟩
        have HB11 : Hid (Below wr.heap.size wr w11) := HB10.out.trans (hb11.mono HB10.out.size)
        have R1' := R1 w11 HB11.out
        clear hb11 HB10 R1
        go_wp2_with fail
        refine R1'.mono ?_
        clear R1'
        rintro e w12 ⟨rfl, hb12⟩
        have HB12 : Hid (Below wr.heap.size wr w12) := HB11.out.trans (hb12.mono HB11.out.size)
        have N2' := N2 w12 HB12.out
        clear hb12 HB11 N2
        go_wp2_with fail
        refine N2'.mono ?_
        clear N2'
        rintro e w13 ⟨rfl, rfl⟩
        have N1' := N1 w13 HB12.out
        clear N1
        go_wp2_with fail
        refine N1'.mono ?_
        clear N1'
        rintro e w14 ⟨rfl, rfl⟩
        go_wp2_with fail
        go_ret
        exact ⟨rfl, HBW.out.trans (HB12.out.mono HBW.out.size)⟩
end Go.Proofs.Ytedgaiblcpekaab
