/- Layer 6 (schema): the document's flags. -/
import Derived.Test.YtbpmahchinblhaaDoorSRField
namespace Go.Proofs.YtbpmahchinblhaaDoor
open Go.RowKit
set_option linter.unusedVariables false
set_option linter.unusedSimpArgs false

/-- The word f stands at place k. -/
def stands (ws : List ByteArray) (k : Nat) (f : ByteArray) : Bool := match ws[k]? with | some x => decide (x = f) | none => false
theorem takeF_drop (ws : List ByteArray) (k : Nat) (f : ByteArray) : takeF f (ws.drop k) = (stands ws k f, ws.drop (k + (stands ws k f).toNat)) := by
  unfold stands
  by_cases h : k < ws.length
  · rw [List.drop_eq_getElem_cons h, List.getElem?_eq_getElem h]
    unfold takeF
    by_cases hx : ws[k] = f
    · simp [hx]
    · dsimp only
      rw [if_neg hx]
      simp only [hx, decide_false, Bool.toNat_false, Nat.add_zero]
      rw [List.drop_eq_getElem_cons h]
  · rw [List.drop_eq_nil_of_le (by omega), List.getElem?_eq_none (by omega)]
    simp [takeF]
    omega
/-- What the walk wants to know of the word at place k. -/
theorem stands_cases (ws : List ByteArray) (k : Nat) (f : ByteArray) : (stands ws k f = false ∧ ¬ k < ws.length) ∨ (∃ h : k < ws.length, (ws[k].toList == f.toList) = stands ws k f) := by
  unfold stands
  by_cases h : k < ws.length
  · right
    refine ⟨h, ?_⟩
    rw [List.getElem?_eq_getElem h, beq_toList]
  · left
    rw [List.getElem?_eq_none (by omega)]
    exact ⟨rfl, h⟩
theorem stands_at (ws : List ByteArray) (k : Nat) (f : ByteArray) (h : k < ws.length) : (ws[k].toList == f.toList) = stands ws k f := by
  unfold stands
  rw [List.getElem?_eq_getElem h, beq_toList]
theorem stands_off (ws : List ByteArray) (k : Nat) (f : ByteArray) (h : ¬ k < ws.length) : stands ws k f = false := by
  unfold stands
  rw [List.getElem?_eq_none (by omega)]
theorem flags_stands (ws : List ByteArray) : flagsW ws = ((stands ws 0 uniqueW, stands ws (stands ws 0 uniqueW).toNat lowerW, stands ws ((stands ws 0 uniqueW).toNat + (stands ws (stands ws 0 uniqueW).toNat lowerW).toNat) looseW), ws.drop ((stands ws 0 uniqueW).toNat + (stands ws (stands ws 0 uniqueW).toNat lowerW).toNat + (stands ws ((stands ws 0 uniqueW).toNat + (stands ws (stands ws 0 uniqueW).toNat lowerW).toNat) looseW).toNat)) := by
  have h0 := takeF_drop ws 0 uniqueW
  rw [List.drop_zero, Nat.zero_add] at h0
  unfold flagsW
  rw [h0]
  dsimp only
  rw [takeF_drop]
  dsimp only
  rw [takeF_drop]

theorem results_tmp4 {fn : Func} {t u v x : Tmp} (h : fn.results = #[.tmp t, .tmp u, .tmp v, .tmp x]) (tmps : Array Value) (P : Program) (w : World) :
    (results fn tmps).run P w = .ok (.tuple #[tmps.getD t undef, tmps.getD u undef, tmps.getD v undef, tmps.getD x undef]) w := by
  simp [results, h]

theorem ret_four {a b c d a' b' c' d' : Bool} (h1 : a = a') (h2 : b = b') (h3 : c = c') (h4 : d = d') : Ending.returned (.tuple #[.bool a, .bool b, .bool c, .bool d]) = .returned (.tuple #[.bool a', .bool b', .bool c', .bool d']) := by rw [h1, h2, h3, h4]
theorem rest_zero (ws : List ByteArray) (k : Nat) (hk : k ≤ ws.length) : ((k : Int) == (ws.length : Int)) = decide ((ws.drop k).length = 0) := by
  by_cases h : k = ws.length
  · simp [h]
  · have h1 : ¬ (ws.length - k = 0) := by omega
    simp [h1]
    omega

set_option maxRecDepth 100000 in
set_option maxHeartbeats 4000000 in
theorem rflags_calls (ao : Option Addr) (cap : Nat) (ws : List ByteArray) (w : World) (hl : ws.length ≤ 100000) (hc : CellsAt w ao (ws.map Value.string)) :
    Calls Tryd.prog 21 #[.slice ao ws.length cap] w fun e w' => e = .returned (.tuple #[.bool (flagsW ws).1.1, .bool (flagsW ws).1.2.1, .bool (flagsW ws).1.2.2, .bool (decide ((flagsW ws).2.length = 0))]) ∧ w' = w := by
  have HF := flags_stands ws
  have r0 : ∀ f : ByteArray, (⟨f.data.toList.toArray⟩ : ByteArray).toList = f.data.toList := fun f => by rw [ByteArray.toList_eq]
  have hk : ∀ k (h : k < ws.length), ∃ b off, ao = some ⟨b, off, none⟩ ∧ w.cell? ⟨b, off + k, none⟩ = some (.string ws[k]) := fun k h => hc.str k h
  rcases stands_cases ws 0 uniqueW with ⟨e0, g0⟩ | ⟨g0, e0⟩
  · have h0 : ws = [] := List.length_eq_zero_iff.1 (by omega)
    subst h0
    clear HF e0 g0 hk
    go_enter Tryd.func21, Tryd.ntmps21
    go_wp2
    (try simp only [Exit.inBlock, Exit.then])
    refine bodyPost_ret (results_tmp4 rfl _ _ _) rfl ?_
    exact ⟨rfl, rfl⟩
  · obtain ⟨b, off, rfl, c0⟩ := hk 0 g0
    have u0 : uniqueW.toList = [117, 110, 105, 113, 117, 101] := by rw [ByteArray.toList_eq]; rfl
    have u1 : lowerW.toList = [108, 111, 119, 101, 114] := by rw [ByteArray.toList_eq]; rfl
    have u2 : looseW.toList = [108, 111, 111, 115, 101] := by rw [ByteArray.toList_eq]; rfl
    rw [Nat.add_zero] at c0
    clear e0 r0
-- TAIL
    have hcell : ∀ k (h : k < ws.length), w.cell? ⟨b, off + k, none⟩ = some (.string ws[k]) := fun k h => by
      obtain ⟨b1, o1, e, c⟩ := hk k h
      simp only [Option.some.injEq, Addr.mk.injEq] at e
      obtain ⟨rfl, rfl, _⟩ := e
      exact c
    have e0 : (ws[0].toList == [117, 110, 105, 113, 117, 101]) = stands ws 0 uniqueW := by rw [← u0]; exact stands_at ws 0 uniqueW (by omega)
    cases hb0 : stands ws 0 uniqueW with
    | true =>
      rw [hb0] at e0 HF
      try simp only [Bool.toNat_true, Bool.toNat_false, Nat.add_zero, Nat.zero_add, Nat.reduceAdd] at HF
      rcases stands_cases ws 1 lowerW with ⟨e1, g1⟩ | ⟨g1, e1⟩
      · rw [e1] at HF
        have e2 : stands ws 1 looseW = false := stands_off ws 1 looseW (by omega)
        simp only [Bool.toNat_true, Bool.toNat_false, Nat.add_zero, Nat.zero_add, Nat.reduceAdd, e2] at HF
        try simp only [Bool.toNat_true, Bool.toNat_false, Nat.add_zero, Nat.zero_add, Nat.reduceAdd] at HF
        have HZ : Hid (((1 : Int) == (ws.length : Int)) = decide ((ws.drop 1).length = 0)) := rest_zero ws 1 (by omega)
        have HG : Hid (flagsW ws = ((true, false, false), ws.drop 1)) := HF
        clear HF hk hc
        go_enter Tryd.func21, Tryd.ntmps21
        go_wp2
        (try simp only [Exit.inBlock, Exit.then])
        refine bodyPost_ret (results_tmp4 rfl _ _ _) rfl ?_
        rw [HG.out]
        refine ⟨?_, rfl⟩
        dsimp only
        refine (ret_four rfl rfl rfl ?_ : Ending.returned (.tuple #[.bool true, .bool false, .bool false, .bool ((1 : Int) == (ws.length : Int))]) = _)
        first | exact HZ.out | (rw [HZ.out]; exact decide_eq_decide.2 List.length_eq_zero_iff)
      · rw [u1] at e1
        have c1 := hcell 1 g1
        cases hb1 : stands ws 1 lowerW with
        | true =>
          rw [hb1] at e1 HF
          try simp only [Bool.toNat_true, Bool.toNat_false, Nat.add_zero, Nat.zero_add, Nat.reduceAdd] at HF
          rcases stands_cases ws 2 looseW with ⟨e2, g2⟩ | ⟨g2, e2⟩
          · rw [e2] at HF
            try simp only [Bool.toNat_true, Bool.toNat_false, Nat.add_zero, Nat.zero_add, Nat.reduceAdd] at HF
            have HZ : Hid (((2 : Int) == (ws.length : Int)) = decide ((ws.drop 2).length = 0)) := rest_zero ws 2 (by omega)
            have HG : Hid (flagsW ws = ((true, true, false), ws.drop 2)) := HF
            clear HF hk hc
            go_enter Tryd.func21, Tryd.ntmps21
            go_wp2
            (try simp only [Exit.inBlock, Exit.then])
            refine bodyPost_ret (results_tmp4 rfl _ _ _) rfl ?_
            rw [HG.out]
            refine ⟨?_, rfl⟩
            dsimp only
            refine (ret_four rfl rfl rfl ?_ : Ending.returned (.tuple #[.bool true, .bool true, .bool false, .bool ((2 : Int) == (ws.length : Int))]) = _)
            first | exact HZ.out | (rw [HZ.out]; exact decide_eq_decide.2 List.length_eq_zero_iff)
          · rw [u2] at e2
            have c2 := hcell 2 g2
            cases hb2 : stands ws 2 looseW with
            | true =>
              rw [hb2] at e2 HF
              try simp only [Bool.toNat_true, Bool.toNat_false, Nat.add_zero, Nat.zero_add, Nat.reduceAdd] at HF
              have HZ : Hid (((3 : Int) == (ws.length : Int)) = decide ((ws.drop 3).length = 0)) := rest_zero ws 3 (by omega)
              have HG : Hid (flagsW ws = ((true, true, true), ws.drop 3)) := HF
              clear HF hk hc
              go_enter Tryd.func21, Tryd.ntmps21
              go_wp2
              (try simp only [Exit.inBlock, Exit.then])
              refine bodyPost_ret (results_tmp4 rfl _ _ _) rfl ?_
              rw [HG.out]
              refine ⟨?_, rfl⟩
              dsimp only
              refine (ret_four rfl rfl rfl ?_ : Ending.returned (.tuple #[.bool true, .bool true, .bool true, .bool ((3 : Int) == (ws.length : Int))]) = _)
              first | exact HZ.out | (rw [HZ.out]; exact decide_eq_decide.2 List.length_eq_zero_iff)
            | false =>
              rw [hb2] at e2 HF
              try simp only [Bool.toNat_true, Bool.toNat_false, Nat.add_zero, Nat.zero_add, Nat.reduceAdd] at HF
              have HZ : Hid (((2 : Int) == (ws.length : Int)) = decide ((ws.drop 2).length = 0)) := rest_zero ws 2 (by omega)
              have HG : Hid (flagsW ws = ((true, true, false), ws.drop 2)) := HF
              clear HF hk hc
              go_enter Tryd.func21, Tryd.ntmps21
              go_wp2
              (try simp only [Exit.inBlock, Exit.then])
              refine bodyPost_ret (results_tmp4 rfl _ _ _) rfl ?_
              rw [HG.out]
              refine ⟨?_, rfl⟩
              dsimp only
              refine (ret_four rfl rfl rfl ?_ : Ending.returned (.tuple #[.bool true, .bool true, .bool false, .bool ((2 : Int) == (ws.length : Int))]) = _)
              first | exact HZ.out | (rw [HZ.out]; exact decide_eq_decide.2 List.length_eq_zero_iff)
        | false =>
          rw [hb1] at e1 HF
          try simp only [Bool.toNat_true, Bool.toNat_false, Nat.add_zero, Nat.zero_add, Nat.reduceAdd] at HF
          have e2 : (ws[1].toList == [108, 111, 111, 115, 101]) = stands ws 1 looseW := by rw [← u2]; exact stands_at ws 1 looseW (by omega)
          cases hb2 : stands ws 1 looseW with
          | true =>
            rw [hb2] at e2 HF
            try simp only [Bool.toNat_true, Bool.toNat_false, Nat.add_zero, Nat.zero_add, Nat.reduceAdd] at HF
            have HZ : Hid (((2 : Int) == (ws.length : Int)) = decide ((ws.drop 2).length = 0)) := rest_zero ws 2 (by omega)
            have HG : Hid (flagsW ws = ((true, false, true), ws.drop 2)) := HF
            clear HF hk hc
            go_enter Tryd.func21, Tryd.ntmps21
            go_wp2
            (try simp only [Exit.inBlock, Exit.then])
            refine bodyPost_ret (results_tmp4 rfl _ _ _) rfl ?_
            rw [HG.out]
            refine ⟨?_, rfl⟩
            dsimp only
            refine (ret_four rfl rfl rfl ?_ : Ending.returned (.tuple #[.bool true, .bool false, .bool true, .bool ((2 : Int) == (ws.length : Int))]) = _)
            first | exact HZ.out | (rw [HZ.out]; exact decide_eq_decide.2 List.length_eq_zero_iff)
          | false =>
            rw [hb2] at e2 HF
            try simp only [Bool.toNat_true, Bool.toNat_false, Nat.add_zero, Nat.zero_add, Nat.reduceAdd] at HF
            have HZ : Hid (((1 : Int) == (ws.length : Int)) = decide ((ws.drop 1).length = 0)) := rest_zero ws 1 (by omega)
            have HG : Hid (flagsW ws = ((true, false, false), ws.drop 1)) := HF
            clear HF hk hc
            go_enter Tryd.func21, Tryd.ntmps21
            go_wp2
            (try simp only [Exit.inBlock, Exit.then])
            refine bodyPost_ret (results_tmp4 rfl _ _ _) rfl ?_
            rw [HG.out]
            refine ⟨?_, rfl⟩
            dsimp only
            refine (ret_four rfl rfl rfl ?_ : Ending.returned (.tuple #[.bool true, .bool false, .bool false, .bool ((1 : Int) == (ws.length : Int))]) = _)
            first | exact HZ.out | (rw [HZ.out]; exact decide_eq_decide.2 List.length_eq_zero_iff)
    | false =>
      rw [hb0] at e0 HF
      try simp only [Bool.toNat_true, Bool.toNat_false, Nat.add_zero, Nat.zero_add, Nat.reduceAdd] at HF
      have e1 : (ws[0].toList == [108, 111, 119, 101, 114]) = stands ws 0 lowerW := by rw [← u1]; exact stands_at ws 0 lowerW (by omega)
      cases hb1 : stands ws 0 lowerW with
      | true =>
        rw [hb1] at e1 HF
        try simp only [Bool.toNat_true, Bool.toNat_false, Nat.add_zero, Nat.zero_add, Nat.reduceAdd] at HF
        rcases stands_cases ws 1 looseW with ⟨e2, g2⟩ | ⟨g2, e2⟩
        · rw [e2] at HF
          try simp only [Bool.toNat_true, Bool.toNat_false, Nat.add_zero, Nat.zero_add, Nat.reduceAdd] at HF
          have HZ : Hid (((1 : Int) == (ws.length : Int)) = decide ((ws.drop 1).length = 0)) := rest_zero ws 1 (by omega)
          have HG : Hid (flagsW ws = ((false, true, false), ws.drop 1)) := HF
          clear HF hk hc
          go_enter Tryd.func21, Tryd.ntmps21
          go_wp2
          (try simp only [Exit.inBlock, Exit.then])
          refine bodyPost_ret (results_tmp4 rfl _ _ _) rfl ?_
          rw [HG.out]
          refine ⟨?_, rfl⟩
          dsimp only
          refine (ret_four rfl rfl rfl ?_ : Ending.returned (.tuple #[.bool false, .bool true, .bool false, .bool ((1 : Int) == (ws.length : Int))]) = _)
          first | exact HZ.out | (rw [HZ.out]; exact decide_eq_decide.2 List.length_eq_zero_iff)
        · rw [u2] at e2
          have c1 := hcell 1 g2
          cases hb2 : stands ws 1 looseW with
          | true =>
            rw [hb2] at e2 HF
            try simp only [Bool.toNat_true, Bool.toNat_false, Nat.add_zero, Nat.zero_add, Nat.reduceAdd] at HF
            have HZ : Hid (((2 : Int) == (ws.length : Int)) = decide ((ws.drop 2).length = 0)) := rest_zero ws 2 (by omega)
            have HG : Hid (flagsW ws = ((false, true, true), ws.drop 2)) := HF
            clear HF hk hc
            go_enter Tryd.func21, Tryd.ntmps21
            go_wp2
            (try simp only [Exit.inBlock, Exit.then])
            refine bodyPost_ret (results_tmp4 rfl _ _ _) rfl ?_
            rw [HG.out]
            refine ⟨?_, rfl⟩
            dsimp only
            refine (ret_four rfl rfl rfl ?_ : Ending.returned (.tuple #[.bool false, .bool true, .bool true, .bool ((2 : Int) == (ws.length : Int))]) = _)
            first | exact HZ.out | (rw [HZ.out]; exact decide_eq_decide.2 List.length_eq_zero_iff)
          | false =>
            rw [hb2] at e2 HF
            try simp only [Bool.toNat_true, Bool.toNat_false, Nat.add_zero, Nat.zero_add, Nat.reduceAdd] at HF
            have HZ : Hid (((1 : Int) == (ws.length : Int)) = decide ((ws.drop 1).length = 0)) := rest_zero ws 1 (by omega)
            have HG : Hid (flagsW ws = ((false, true, false), ws.drop 1)) := HF
            clear HF hk hc
            go_enter Tryd.func21, Tryd.ntmps21
            go_wp2
            (try simp only [Exit.inBlock, Exit.then])
            refine bodyPost_ret (results_tmp4 rfl _ _ _) rfl ?_
            rw [HG.out]
            refine ⟨?_, rfl⟩
            dsimp only
            refine (ret_four rfl rfl rfl ?_ : Ending.returned (.tuple #[.bool false, .bool true, .bool false, .bool ((1 : Int) == (ws.length : Int))]) = _)
            first | exact HZ.out | (rw [HZ.out]; exact decide_eq_decide.2 List.length_eq_zero_iff)
      | false =>
        rw [hb1] at e1 HF
        try simp only [Bool.toNat_true, Bool.toNat_false, Nat.add_zero, Nat.zero_add, Nat.reduceAdd] at HF
        have e2 : (ws[0].toList == [108, 111, 111, 115, 101]) = stands ws 0 looseW := by rw [← u2]; exact stands_at ws 0 looseW (by omega)
        cases hb2 : stands ws 0 looseW with
        | true =>
          rw [hb2] at e2 HF
          try simp only [Bool.toNat_true, Bool.toNat_false, Nat.add_zero, Nat.zero_add, Nat.reduceAdd] at HF
          have HZ : Hid (((1 : Int) == (ws.length : Int)) = decide ((ws.drop 1).length = 0)) := rest_zero ws 1 (by omega)
          have HG : Hid (flagsW ws = ((false, false, true), ws.drop 1)) := HF
          clear HF hk hc
          go_enter Tryd.func21, Tryd.ntmps21
          go_wp2
          (try simp only [Exit.inBlock, Exit.then])
          refine bodyPost_ret (results_tmp4 rfl _ _ _) rfl ?_
          rw [HG.out]
          refine ⟨?_, rfl⟩
          dsimp only
          refine (ret_four rfl rfl rfl ?_ : Ending.returned (.tuple #[.bool false, .bool false, .bool true, .bool ((1 : Int) == (ws.length : Int))]) = _)
          first | exact HZ.out | (rw [HZ.out]; exact decide_eq_decide.2 List.length_eq_zero_iff)
        | false =>
          rw [hb2] at e2 HF
          try simp only [Bool.toNat_true, Bool.toNat_false, Nat.add_zero, Nat.zero_add, Nat.reduceAdd] at HF
          have HZ : Hid (((0 : Int) == (ws.length : Int)) = decide ((ws.drop 0).length = 0)) := rest_zero ws 0 (by omega)
          have HG : Hid (flagsW ws = ((false, false, false), ws.drop 0)) := HF
          clear HF hk hc
          go_enter Tryd.func21, Tryd.ntmps21
          go_wp2
          (try simp only [Exit.inBlock, Exit.then])
          refine bodyPost_ret (results_tmp4 rfl _ _ _) rfl ?_
          rw [HG.out]
          refine ⟨?_, rfl⟩
          dsimp only
          refine (ret_four rfl rfl rfl ?_ : Ending.returned (.tuple #[.bool false, .bool false, .bool false, .bool ((0 : Int) == (ws.length : Int))]) = _)
          first | exact HZ.out | (rw [HZ.out]; exact decide_eq_decide.2 List.length_eq_zero_iff)
end Go.Proofs.YtbpmahchinblhaaDoor
