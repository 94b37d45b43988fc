/- Layer 4 (walk): Along. -/
import Derived.Test.YteelgkmkeaiojaaXNextW
import Derived.Test.YteelgkmkeaiojaaXUnder
import Derived.Test.YteelgkmkeaiojaaXLawK
import Derived.Test.YteelgkmkeaiojaaXWith
namespace Go.Proofs.Yteelgkmkeaiojaa
open Go.RowKit Go.Shelf
set_option linter.unusedVariables false

/-- The entries of the nodes. -/
def aloE (l : List Tr) : List En := l.flatMap ownE

/-- How much is left of the way, by the node in the box. -/
def leftB (k : ByteArray) (p on : Value) (w : World) : Nat := match on with
  | .bool true => match p with
    | .pointer (some a) => match w.cell? a with
      | some v => leftOf k v w
      | none => 0
    | _ => 0
  | _ => 0

structure AwI (w₀ : World) (X : Nat → Prop) (es : List En) (J : List (El es) → World → Prop) (W : World) (Bp : Nat) (k : ByteArray) (out : List En) (wr : World) : Prop where
  base : Below w₀.heap.size w₀ wr
  size : W.heap.size ≤ wr.heap.size
  kbox : wr.heap[Bp]? = some (.cells #[.string k] 9)
  got : ∃ ys : List (El es), ys.map (·.1) = out ∧ J ys wr
theorem AwI.keep {w₀ : World} {X : Nat → Prop} {es : List En} {J : List (El es) → World → Prop} (hJ : Abs J) {W : World} {Bp : Nat} {k : ByteArray} {out : List En} {wr wr' : World} (h : AwI w₀ X es J W Bp k out wr) (hb : Below wr.heap.size wr wr') : AwI w₀ X es J W Bp k out wr' := by
  obtain ⟨ys, h1, h2⟩ := h.got
  exact ⟨h.base.trans (hb.mono h.base.size), Nat.le_trans h.size hb.size, (hb.block _ (lt_of_heap h.kbox)).trans h.kbox, ys, h1, hJ _ _ _ h2 hb⟩
theorem AwI.more {w₀ : World} {X : Nat → Prop} {es : List En} {J : List (El es) → World → Prop} {W : World} {Bp : Nat} {k : ByteArray} {out more : List En} {wr wr' : World} {ys zs : List (El es)} (h : AwI w₀ X es J W Bp k out wr) (hx : ¬ X Bp) (hk : Kp w₀.heap.size X wr wr') (hy : ys.map (·.1) = out) (hz : zs.map (·.1) = more) (hj : J (ys ++ zs) wr') : AwI w₀ X es J W Bp k (out ++ more) wr' :=
  ⟨h.base.trans hk.below, Nat.le_trans h.size hk.below.size, (hk.kept _ _ _ h.kbox (.inr (.inl rfl)) hx).trans h.kbox, ys ++ zs, by rw [List.map_append, hy, hz], hj⟩
set_option maxRecDepth 100000 in
set_option maxHeartbeats 4000000 in
theorem along1_calls (w₀ : World) (tb : Nat) (T : Tr) (ne : Int) (d : Nat) (hT : Tin w₀ tb T ne d) (k : ByteArray) (hk : k.size ≤ 140737488351232) (nl : List Tr) (hA : Along (kyb k) T nl) (l B0 : Nat) (X : Nat → Prop) (J Jx : List (El (aloE nl)) → World → Prop) (hJ : Abs J) (hY : YOk l w₀.heap.size (aloE nl).length X (aloE nl) J Jx) (Bk : Nat) (hJk : AbsK Bk J) (hX : ∀ b, X b → b < B0)
    (Bt Bp : Nat) (W : World) (hb : Below w₀.heap.size w₀ W) (hB : B0 ≤ W.heap.size) (hBk : Bk ≤ W.heap.size) (hBn : Bp < W.heap.size) (hw0 : w₀.heap.size ≤ Bk) (ht : W.cell? ⟨Bt, 0, none⟩ = some (.pointer (some ⟨tb, 0, none⟩))) (hp : W.heap[Bp]? = some (.cells #[.string k] 9)) (hxp : ¬ X Bp) (hj : J [] W) :
    Calls Try.prog 38 #[.func (.yield l) #[] #[], .pointer (some ⟨Bt, 0, none⟩), .pointer (some ⟨Bp, 0, none⟩)] W fun e W' => (∃ v, e = .returned v) ∧
      ((∃ ys : List (El (aloE nl)), ys.map (·.1) = aloE nl ∧ J ys W') ∨ (∃ ys : List (El (aloE nl)), ys.map (·.1) <+: aloE nl ∧ Jx ys W')) := by
  have HR := root_calls tb T ne W (hT.tree.keep hb)
  have hroot := root_pre hT.root (kyb k)
  have htat : ∀ c ∈ nl, TAt nR w₀ c := along_tat hA hT.tree.tat
  have hwf := hA.wf hT.wf
  have hpre := hA.pre hroot
  have hst := hA.step
  have hinc := (hA.inc hT.wf).1
  obtain ⟨r, hr⟩ := hA.head
  have hl0 : 0 < nl.length := by rw [hr]; simp
  have hh0 : nl[0] = T := by subst hr; rfl
  have HN : Hid ((∀ c ∈ nl, TAt nR w₀ c) ∧ (∀ c ∈ nl, WF c) ∧ (∀ c ∈ nl, c.path <+: kyb k) ∧ (∀ i (hi : i < nl.length), nx nl[i] (kyb k) = nl[i + 1]?) ∧ (nl.map (·.p.size)).Pairwise (· < ·)) := ⟨htat, hwf, hpre, hst, hinc⟩
  have HI0 : Hid (AwI w₀ X (aloE nl) J W Bp k (aloE (nl.take 0)) W) := ⟨hb, Nat.le_refl _, hp, [], rfl, hj⟩
  have HJ : Hid (Abs J) := hJ
  have HJK : Hid (AbsK Bk J) := hJk
  have HYY : Hid (YOk l w₀.heap.size (aloE nl).length X (aloE nl) J Jx) := hY
  have HPF : Hid (∀ i (hi : i < nl.length), aloE (nl.take i) ++ ownE nl[i] <+: aloE nl ∧ aloE (nl.take (i + 1)) = aloE (nl.take i) ++ ownE nl[i]) := fun i hi => by
    have e : aloE (nl.take (i + 1)) = aloE (nl.take i) ++ ownE nl[i] := take_flat ownE nl i hi
    exact ⟨by rw [← e]; exact take_flat_pre ownE nl (i + 1), e⟩
  rw [← hh0] at HR
  unfold nodeV at HR
  clear htat hwf hpre hst hinc hr r hA hj hJ hY hb hp hroot hh0
  go_enter Try.func38, Try.ntmps38
  go_wp2_with fail
  refine HR.mono ?_
  clear HR
  rintro e w1 ⟨rfl, hb1⟩
  obtain ⟨w2, hw2⟩ : ∃ w2, w2 = w1.alloc (.cells #[.pointer (some ⟨nl[0].a, 0, none⟩)] 59) := ⟨_, rfl⟩
  have HW2 : Hid (w2 = w1.alloc (.cells #[.pointer (some ⟨nl[0].a, 0, none⟩)] 59)) := hw2
  clear hw2
  have hb2 : Below w1.heap.size w1 w2 := by rw [HW2.out]; exact (Below.refl _ _).alloc (Nat.le_refl _) _
  have q2 : w2.heap[w1.heap.size]? = some (.cells #[.pointer (some ⟨nl[0].a, 0, none⟩)] 59) := by rw [HW2.out]; exact heap_alloc_new _ _
  have HI2 : Hid (AwI w₀ X (aloE nl) J W Bp k (aloE (nl.take 0)) w2) := (HI0.out.keep HJ.out hb1).keep HJ.out hb2
  have hbx : B0 ≤ w1.heap.size := Nat.le_trans hB hb1.size
  have HQ2 : Hid (w2.heap[w1.heap.size]? = some (.cells #[.pointer (some ⟨nl[0].a, 0, none⟩)] 59)) := q2
  clear hb1 hb2 HI0 ht q2
  go_wp2_with fail
  rw [← HW2.out]
  clear HW2
  go_loopw [4, 5] (fun p on wr => (∃ (i nb : Nat) (hi : i < nl.length), p = .pointer (some ⟨nb, 0, none⟩) ∧ on = .bool true ∧ B0 ≤ nb ∧ Hid (wr.heap[nb]? = some (.cells #[.pointer (some ⟨nl[i].a, 0, none⟩)] 59)) ∧ Hid (AwI w₀ X (aloE nl) J W Bp k (aloE (nl.take i)) wr)) ∨ (∃ nb : Nat, p = .pointer (some ⟨nb, 0, none⟩) ∧ on = .bool false ∧ Hid (AwI w₀ X (aloE nl) J W Bp k (aloE nl) wr))) (fun p on wr => leftB k p on wr)
  case atStart => exact .inl ⟨0, w1.heap.size, hl0, rfl, rfl, hbx, HQ2, HI2⟩
  case round =>
    clear HI2 HQ2
    rcases hrel with ⟨i, nb, hi, rfl, rfl, hnb, HQ, HI⟩ | ⟨nb, rfl, rfl, HI⟩
    · have hmem := List.getElem_mem hi
      obtain ⟨c, hcc⟩ : ∃ c, c = nl[i] := ⟨_, rfl⟩
      rw [← hcc] at HQ hmem
      have HPFi := HPF.out i hi
      rw [← hcc] at HPFi
      have hstep := HN.out.2.2.2.1 i hi
      rw [← hcc] at hstep
      obtain ⟨ys, hy1, hy2⟩ := HI.out.got
      have hyl : ys.length = (aloE (nl.take i)).length := by have := congrArg List.length hy1; simpa using this
      have hpl := HPFi.1.length_le
      rw [List.length_append] at hpl
      have HG := give_calls l w₀.heap.size (aloE nl).length X (aloE nl) J Jx HJ.out HYY.out c ys wr HI.out.base.size ((HN.out.1 c hmem).keep HI.out.base) hy2 (fun e he => HPFi.1.subset (List.mem_append_right _ he)) (by omega)
      have k0 : wr.cell? ⟨nb, 0, none⟩ = some (.pointer (some ⟨c.a, 0, none⟩)) := by rw [cell_of_blk HQ.out]; rfl
      have HML : Hid (leftB k (.pointer (some ⟨nb, 0, none⟩)) (.bool true) wr = k.size + 1 - c.p.size) := by
        show _ = _
        simp only [leftB, k0]
        exact leftOf_at ((HN.out.1 c hmem).keep HI.out.base)
      have hcle : c.p.size ≤ k.size := by have := (HN.out.2.2.1 c hmem).length_le; rwa [path_length, kyb_len] at this
      have HYS : Hid (ys.map (·.1) = aloE (nl.take i)) := hy1
      have HPI : Hid (aloE (nl.take i) ++ ownE c <+: aloE nl ∧ aloE (nl.take (i + 1)) = aloE (nl.take i) ++ ownE c) := HPFi
      have HST : Hid (nx c (kyb k) = nl[i + 1]?) := hstep
      have HCC : Hid (c = nl[i]) := hcc
      have hnx : ¬ X nb := fun h => by have := hX _ h; omega
      unfold nodeV at HG
      clear hy1 hy2 hyl hpl HPFi hstep hcc
      go_wp2_with fail
      refine HG.mono ?_
      clear HG
      rintro e w3 (⟨rfl, zs, hz1, hz2, hk3⟩ | ⟨rfl, zs, hz1, hz2⟩)
      · have HI3 : Hid (AwI w₀ X (aloE nl) J W Bp k (aloE (nl.take (i + 1))) w3) := by
          show AwI _ _ _ _ _ _ _ _ _
          rw [HPI.out.2]; exact HI.out.more hxp hk3 HYS.out hz1 hz2
        have q3 : w3.heap[nb]? = some (.cells #[.pointer (some ⟨c.a, 0, none⟩)] 59) := (hk3.kept _ _ _ HQ.out (.inl rfl) hnx).trans HQ.out
        have k3 : w3.cell? ⟨nb, 0, none⟩ = some (.pointer (some ⟨c.a, 0, none⟩)) := by rw [cell_of_blk q3]; rfl
        obtain ⟨w4, HW4⟩ : ∃ w4, Hid (w4 = w3.alloc (.cells #[.pointer (some ⟨c.a, 0, none⟩)] 59)) := ⟨_, rfl⟩
        have hb4 : Below w3.heap.size w3 w4 := by rw [HW4.out]; exact (Below.refl _ _).alloc (Nat.le_refl _) _
        have q4 : w4.heap[w3.heap.size]? = some (.cells #[.pointer (some ⟨c.a, 0, none⟩)] 59) := by rw [HW4.out]; exact heap_alloc_new _ _
        have HI4 : Hid (AwI w₀ X (aloE nl) J W Bp k (aloE (nl.take (i + 1))) w4) := HI3.out.keep HJ.out hb4
        have kb4 : w4.cell? ⟨Bp, 0, none⟩ = some (.string k) := by rw [cell_of_blk HI4.out.kbox]; rfl
        have HNW := nextW_calls c k w4 ((HN.out.1 c hmem).keep HI4.out.base) (HN.out.2.1 c hmem) (HN.out.2.2.1 c hmem) hk
        rw [HST.out, nodeO_eq] at HNW
        have HQ4 : Hid (w4.heap[w3.heap.size]? = some (.cells #[.pointer (some ⟨c.a, 0, none⟩)] 59)) := q4
        have hb3s : B0 ≤ w3.heap.size := Nat.le_trans hB HI3.out.size
        have hWs3 := HI3.out.size
        unfold nodeV at HNW
        rw [HW4.out] at kb4
        clear hz1 hz2 hk3 q3 hb4 q4 HI3 HQ HI k0
        go_wp2_with fail
        rw [← HW4.out]
        clear HW4 kb4
        refine HNW.mono ?_
        clear HNW
        rintro e w5 ⟨rfl, hb5⟩
        have HI5 : Hid (AwI w₀ X (aloE nl) J W Bp k (aloE (nl.take (i + 1))) w5) := HI4.out.keep HJ.out hb5
        have q5 : w5.heap[w3.heap.size]? = some (.cells #[.pointer (some ⟨c.a, 0, none⟩)] 59) := (hb5.block _ (lt_of_heap HQ4.out)).trans HQ4.out
        have k5 : w5.cell? ⟨w3.heap.size, 0, none⟩ = some (.pointer (some ⟨c.a, 0, none⟩)) := by rw [cell_of_blk q5]; rfl
        have f5 : w5.frozen? ⟨w3.heap.size, 0, none⟩ = false := frozen_of_blk q5
        obtain ⟨wz, HWZ⟩ : ∃ wz, Hid (wz = w5.setCell ⟨w3.heap.size, 0, none⟩ (.pointer (ptrO nl[i + 1]?))) := ⟨w5.setCell ⟨w3.heap.size, 0, none⟩ (.pointer (ptrO nl[i + 1]?)), rfl⟩
        have qz : wz.heap[w3.heap.size]? = some (.cells #[.pointer (ptrO nl[i + 1]?)] 59) := by rw [HWZ.out, setCell_blk q5]; rfl
        have hsW : W.heap.size ≤ w3.heap.size := hWs3
        have HIZ : Hid (AwI w₀ X (aloE nl) J W Bp k (aloE (nl.take (i + 1))) wz) := by
          obtain ⟨us, h1, h2⟩ := HI5.out.got
          rw [HWZ.out]
          refine ⟨HI5.out.base.setCell (p := ⟨w3.heap.size, 0, none⟩) (by show w₀.heap.size ≤ w3.heap.size; omega) _, by rw [size_setCell']; exact HI5.out.size, ?_, us, h1, HJK.out _ _ _ _ _ _ _ h2 (by omega) q5 (.inl rfl)⟩
          rw [heap_setCell_other _ _ _ _ (by show Bp ≠ w3.heap.size; omega)]; exact HI5.out.kbox
        have HQZ : Hid (wz.heap[w3.heap.size]? = some (.cells #[.pointer (ptrO nl[i + 1]?)] 59)) := qz
        clear hb5 q5 HI4 HQ4 qz
        go_wp2_with fail
        rw [← HWZ.out]
        by_cases h1 : i + 1 < nl.length
        · have hsm : nl[i + 1]? = some nl[i + 1] := List.getElem?_eq_getElem h1
          rw [hsm] at HQZ ⊢
          go_roundw
          case rel => exact .inl ⟨i + 1, w3.heap.size, h1, rfl, rfl, hb3s, HQZ, HIZ⟩
          case measure =>
            rw [HML.out]
            have kz : wz.cell? ⟨w3.heap.size, 0, none⟩ = some (.pointer (some ⟨nl[i + 1].a, 0, none⟩)) := by rw [cell_of_blk HQZ.out]; rfl
            have hlt2 := List.pairwise_iff_getElem.1 HN.out.2.2.2.2 i (i + 1) (by simpa using hi) (by simpa using h1) (by omega)
            simp only [List.getElem_map] at hlt2
            rw [← HCC.out] at hlt2
            simp only [leftB, Option.isSome_some, kz]
            rw [leftOf_at ((HN.out.1 _ (List.getElem_mem h1)).keep HIZ.out.base)]
            omega
        · have hsm : nl[i + 1]? = none := List.getElem?_eq_none (by omega)
          have hall : nl.take (i + 1) = nl := List.take_of_length_le (by omega)
          rw [hall] at HIZ
          rw [hsm]
          go_roundw
          case rel => exact .inr ⟨w3.heap.size, rfl, rfl, HIZ⟩
          case measure =>
            rw [HML.out]
            simp only [leftB, Option.isSome_none]
            omega
      · have HR : Hid (∃ us : List (El (aloE nl)), us.map (·.1) <+: aloE nl ∧ Jx us w3) := by
          refine ⟨ys ++ zs, ?_, hz2⟩
          rw [List.map_append, HYS.out]
          exact ((List.prefix_append_right_inj _).2 hz1).trans HPI.out.1
        clear hz1 hz2
        go_wp2_with fail
        refine bodyPost_ret (results_none rfl _ _ _) rfl ?_
        obtain ⟨us, h1, h2⟩ := HR.out
        exact ⟨⟨_, rfl⟩, .inr ⟨us, h1, h2⟩⟩
    · go_wp2_with fail
      go_end0
      obtain ⟨ys, h1, h2⟩ := HI.out.got
      exact ⟨⟨_, rfl⟩, .inl ⟨ys, h1, h2⟩⟩

theorem along_seq (w₀ : World) (tb : Nat) (T : Tr) (ne : Int) (d : Nat) (hT : Tin w₀ tb T ne d) (k : ByteArray) (hk : k.size ≤ 140737488351232) (nl : List Tr) (hA : Along (kyb k) T nl) (X : Nat → Prop) (Bt Bp : Nat) (w : World) (hb : Below w₀.heap.size w₀ w) (hX : ∀ b, X b → b < w.heap.size)
    (ht : w.heap[Bt]? = some (.cells #[.pointer (some ⟨tb, 0, none⟩)] 24)) (hp : w.heap[Bp]? = some (.cells #[.string k] 9)) (hxp : ¬ X Bp) :
    SeqYK (Kp w₀.heap.size X) 38 #[.pointer (some ⟨Bt, 0, none⟩), .pointer (some ⟨Bp, 0, none⟩)] (encE (aloE nl)) (fun ys => ys.map (·.1) = aloE nl) (fun ys => ys.map (·.1) <+: aloE nl) (aloE nl).length w := fun l J Jx W hW hlt hJ hJx hJk hJxk hY h0 =>
  along1_calls w₀ tb T ne d hT k hk nl hA l w.heap.size X J Jx (ownFrom_abs hJ) hY W.heap.size hJk hX Bt Bp W (hb.trans (hW.mono hb.size)) hW.size (Nat.le_refl _) (by have := lt_of_heap hp; have := hW.size; omega) (Nat.le_trans hb.size hW.size) (by rw [hW.cell (lt_of_heap ht), cell_of_blk ht]; rfl) ((hW.block _ (lt_of_heap hp)).trans hp) hxp h0
theorem alongM_calls (ao : Option Addr) (p : ByteArray) (w : World) :
    Calls Try.prog 21 #[.pointer ao, .string p] w fun e w' => e = .returned (.func (.func 38) #[] #[.pointer (some ⟨w.heap.size, 0, none⟩), .pointer (some ⟨w.heap.size + 1, 0, none⟩)]) ∧ w' = (w.alloc (.cells #[.pointer ao] 24)).alloc (.cells #[.string p] 9) := by
  have hmf : ∀ (fn : Fn) (first cap : Array Value) (w : World), (Instr.makeFunc fn first cap).run Try.prog w = .ok (.func fn first cap) w := fun _ _ _ _ => rfl
  go_enter Try.func21, Try.ntmps21
  go_wp2
  go_ret
  exact ⟨rfl, rfl⟩
end Go.Proofs.Yteelgkmkeaiojaa
