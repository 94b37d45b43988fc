import Derived.Test.YtelhgjepjieocaaDoorJxApV4
import Derived.Test.YtelhgjepjieocaaDoorJxApV6
/- Layer 18 (json): appendValue whole, by induction. -/
namespace Go.Proofs.YtelhgjepjieocaaDoor
open Go.RowKit Go.MapKept Go.Sort
set_option linter.unusedVariables false
theorem specP_of (k n : Int) (t : List UInt8) (ns : List (List UInt8)) (its : List Js) (IH : ∀ x ∈ its, SpecP x) : SpecP (.mk k n t ns its) := by
  intro d w S cs B vt l hd hso hr hj hSB ho hl hB htab
  unfold JAt at hj
  obtain ⟨na, nc, ia, ic, rfl, h2, h3, h4, h5⟩ := hj
  by_cases k1 : k = 1
  · subst k1; exact appendV1_calls n t ns its IH d _ nc _ ic na ia w S B vt l hd rfl rfl hso hr h2 h3 h5 h4 hSB ho hl hB htab
  by_cases k2 : k = 2
  · subst k2; exact appendV2_calls n t ns its IH d _ nc _ ic na ia w S B vt l hd rfl rfl hso hr h2 h3 h5 h4 hSB ho hl hB htab
  by_cases k3 : k = 3
  · subst k3; exact appendV3_calls n t ns its IH d _ nc _ ic na ia w S B vt l hd rfl rfl hso hr h2 h3 h5 h4 hSB ho hl hB htab
  by_cases k4 : k = 4
  · subst k4; exact appendV4_calls n t ns its IH d _ nc _ ic na ia w S B vt l hd rfl rfl hso hr h2 h3 h5 h4 hSB ho hl hB htab
  by_cases k5 : k = 5
  · subst k5; exact appendV5_calls n t ns its IH d _ nc _ ic na ia w S B vt l hd rfl rfl hso hr h2 h3 h5 h4 hSB ho hl hB htab
  by_cases k6 : k = 6
  · subst k6; exact appendV6_calls n t ns its IH d _ nc _ ic na ia w S B vt l hd rfl rfl hso hr h2 h3 h5 h4 hSB ho hl hB htab
  have hz : soundJ (.mk k n t ns its) d = false := by
    unfold soundJ
    simp [k1, k2, k3, k4, k5, k6]
  rw [hz] at hso
  cases hso
mutual
theorem specP : ∀ v : Js, SpecP v
  | .mk k n t ns its => specP_of k n t ns its (specPs its)
theorem specPs : ∀ its : List Js, ∀ x ∈ its, SpecP x
  | [], x, hx => by cases hx
  | y :: ys, x, hx => by
    rcases List.mem_cons.1 hx with h | h
    · rw [h]; exact specP y
    · exact specPs ys x h
end
end Go.Proofs.YtelhgjepjieocaaDoor

/- Layer 18 (json): Print. -/
namespace Go.Proofs.YtelhgjepjieocaaDoor
open Go.RowKit Go.MapKept Go.Sort
set_option linter.unusedVariables false

def Byt (l : List Nat) : Prop := ∀ c ∈ l, c < 256
theorem Byt.append {a b : List Nat} (h : Byt a) (k : Byt b) : Byt (a ++ b) := fun c hc => by rcases List.mem_append.1 hc with hc | hc; exact h c hc; exact k c hc
theorem byt_escL : ∀ c : Fin 256, ∀ x, escL c.val = some x → x < 256 := by
  intro c x h
  unfold escL at h
  repeat' split at h
  all_goals first | (cases h; decide) | (cases h)
theorem byt_hexD {d : Nat} (h : d < 16) : hexD d < 256 := by unfold hexD; split <;> omega
theorem byt_chrP {c : Nat} (h : c < 256) : Byt (chrP c) := by
  unfold chrP
  split
  · rename_i x hx
    have := byt_escL ⟨c, h⟩ x hx
    intro y hy
    simp at hy
    omega
  · split
    · rename_i h32
      have h1 := byt_hexD (d := c / 16) (by omega)
      have h2 := byt_hexD (d := c % 16) (by omega)
      intro y hy
      simp at hy
      omega
    · intro y hy
      simp at hy
      omega
theorem byt_chrsP : ∀ (cs l : List Nat), Byt cs → Byt l → Byt (chrsP cs l)
  | [], l, _, h => h
  | c :: cs, l, hc, h => by
    unfold chrsP
    split
    · exact h
    · exact byt_chrsP cs _ (fun x hx => hc x (List.mem_cons_of_mem _ hx)) (h.append (byt_chrP (hc c (List.mem_cons_self ..))))
theorem byt_bytes (l : List UInt8) : Byt (l.map UInt8.toNat) := fun c hc => by
  obtain ⟨b, _, rfl⟩ := List.mem_map.1 hc
  exact b.toNat_lt
theorem byt_lit {l : List Nat} (h : (l.all fun c => decide (c < 256)) = true) : Byt l := fun c hc => by simpa using List.all_eq_true.1 h c hc
theorem byt_txtP (s : ByteArray) {l : List Nat} (h : Byt l) : Byt (txtP s l) := (byt_chrsP _ _ (byt_bytes _) (h.append (byt_lit rfl))).append (byt_lit rfl)
mutual
theorem byt_valP : ∀ (v : Js) (l : List Nat), Byt l → Byt (valP v l)
  | .mk k n t ns its, l, h => by
    unfold valP
    split
    · split
      · exact h.append (byt_lit rfl)
      · exact h.append (byt_lit rfl)
    split
    · exact h.append (byt_bytes _)
    split
    · exact byt_txtP _ h
    split
    · exact (byt_itsP its _ _ _ _ (h.append (byt_lit rfl))).append (byt_lit rfl)
    split
    · exact (byt_itsP its _ _ _ _ (h.append (byt_lit rfl))).append (byt_lit rfl)
    exact h.append (byt_lit rfl)
theorem byt_itsP : ∀ (its : List Js) (obj first : Bool) (ns : List (List UInt8)) (l : List Nat), Byt l → Byt (itsP obj first ns its l)
  | [], _, _, _, l, h => by unfold itsP; exact h
  | x :: xs, obj, first, ns, l, h => by
    unfold itsP
    split
    · exact h
    · have h1 : Byt (if first then l else l ++ [44]) := by
        split
        · exact h
        · exact h.append (byt_lit rfl)
      refine byt_itsP xs _ _ _ _ (byt_valP x _ ?_)
      split
      · exact (byt_txtP _ h1).append (byt_lit rfl)
      · exact h1
end
/-- Numbers as a text. -/
def bytesOfN (l : List Nat) : List UInt8 := l.map fun c => UInt8.ofNat c
theorem nbs_bs {l : List Nat} (h : Byt l) : nbs l = bs (bytesOfN l) := by
  unfold nbs bs bytesOfN
  rw [List.map_map]
  refine List.map_congr_left fun c hc => ?_
  have := h c hc
  simp [Nat.mod_eq_of_lt this]
/-- What Print answers: the text, and the error's number. -/
def printJ (v : Js) : List Nat × Int := if soundJ v 0 then (if 65536 < (valP v []).length then ([], 180) else (valP v [], 0)) else ([], 184)
set_option maxRecDepth 100000 in
set_option maxHeartbeats 4000000 in
theorem print_calls (v : Js) (w : World) (S : Nat → Prop) (cs : Array Value) (hr : Rng v) (hj : JAt w S v cs) (hSB : ∀ k, S k → k < w.heap.size) (hv : Vs w) :
    Calls Tryd.prog 15 #[.agg cs] w (fun e w' => e = .returned (.tuple #[.string ⟨(bytesOfN (printJ v).1).toArray⟩, .int .i64 (printJ v).2]) ∧ Below w.heap.size w w') := by
  obtain ⟨Q, HQ⟩ : ∃ Q : List Nat × Int, Hid (Q = printJ v) := ⟨printJ v, (Eq.refl _ : printJ v = _)⟩
  rw [← HQ.out]
  obtain ⟨xk, xn, xt, xa, xl, xc, ya, yl, yc, hcs⟩ := JAt.cs hj
  subst hcs
  obtain ⟨w1, Hw1⟩ : ∃ w1, Hid (w1 = w.alloc (.cells #[.int .i64 xk, .int .i64 xn, .string xt, .slice xa xl xc, .slice ya yl yc] 26)) := ⟨_, rfl⟩
  obtain ⟨g, Hg⟩ : ∃ g, Hid (g = w.heap.size) := ⟨_, rfl⟩
  have HB1 : Hid (Blk w1 g #[.int .i64 xk, .int .i64 xn, .string xt, .slice xa xl xc, .slice ya yl yc] 26) := by rw [Hid, Hw1.out, Hg.out]; exact Blk.new _ _ _
  have HF1 : Hid (Below w.heap.size w w1) := by rw [Hid, Hw1.out]; exact below_new _ _
  have HJ : Hid (JAt w1 S v #[.int .i64 xk, .int .i64 xn, .string xt, .slice xa xl xc, .slice ya yl yc]) := hj.below HF1.out
  have HR : Hid (Rng v ∧ (∀ k, S k → k < w.heap.size) ∧ Vs w) := ⟨hr, hSB, hv⟩
  have HS := specS v 0 w1 S _ (by omega) hr HJ.out
  obtain ⟨sv, Hsv⟩ : ∃ sv, Hid (sv = soundJ v 0) := ⟨soundJ v 0, (Eq.refl _ : soundJ v 0 = _)⟩
  rw [← Hsv.out] at HS
  obtain ⟨x0, x1, x2, x3, x4, -⟩ := Blk.five HB1.out
  clear hr hj hSB hv
  go_enter Tryd.func15, Tryd.ntmps15
  go_upto_region 1 with fail
  rw [← Hw1.out, ← Hg.out]
  clear Hw1 Hg
  go_wp2_with fail
  refine HS.mono ?_
  clear HS x0 x1 x2 x3 x4
  rintro e w2 ⟨rfl, hb2⟩
  have HB2 : Hid (Blk w2 g #[.int .i64 xk, .int .i64 xn, .string xt, .slice xa xl xc, .slice ya yl yc] 26 ∧ Below w.heap.size w w2) := ⟨HB1.out.below hb2, HF1.out.trans (hb2.mono HF1.out.size)⟩
  have HJ2 : Hid (JAt w2 S v #[.int .i64 xk, .int .i64 xn, .string xt, .slice xa xl xc, .slice ya yl yc]) := HJ.out.below hb2
  obtain ⟨x0, x1, x2, x3, x4, -⟩ := Blk.five HB2.out.1
  clear HB1 HF1 HJ hb2
  cases sv with
  | false =>
    have HV : Hid (Q = ([], 184)) := by rw [Hid, HQ.out]; unfold printJ; rw [← Hsv.out]; rfl
    go_wp2
    go_ret2
    exact ⟨by rw [HV.out]; rfl, HB2.out.2⟩
  | true =>
    have HC := specP v 0 w2 S _ w2.heap.size (.slice none 0 0) [] (by omega) Hsv.out.symm HR.out.1 HJ2.out (fun k hk => Nat.lt_of_lt_of_le (HR.out.2.1 k hk) HB2.out.2.size) (World.ownsRow_nil w2 w2.heap.size 5 1) (by simp) (Nat.le_refl _) (Lib.tabBelow_of_tabIs (HR.out.2.2.stay HB2.out.2).1)
    obtain ⟨L, HL⟩ : ∃ L : List Nat, Hid (L = valP v []) := ⟨valP v [], (Eq.refl _ : valP v [] = _)⟩
    rw [← HL.out] at HC
    have HV : Hid (Q = if 65536 < L.length then ([], 180) else (L, 0)) := by rw [Hid, HQ.out]; unfold printJ; rw [← Hsv.out, HL.out]; rfl
    have HY : Hid (Byt L) := by rw [HL.out]; exact byt_valP v [] (fun c hc => by cases hc)
    go_wp2_with fail
    refine HC.mono ?_
    clear HC x0 x1 x2 x3 x4
    rintro e w3 ⟨v3, rfl, ho3, hg3⟩
    obtain ⟨a3, c3, rfl, -, -, -⟩ := ho3.shape
    have HB3 : Hid (Below w.heap.size w w3) := HB2.out.2.trans ((hg3.toBelow (Nat.le_refl _) (fun q hq => by simp [Value.ownBlock] at hq)).mono HB2.out.2.size)
    have HT := tooLong_calls (nbs L).length c3 a3
    rw [nbs_length] at HT ho3
    have hst := ow_string (by rw [← nbs_bs HY.out]; exact ho3)
    clear ho3 hg3
    rw [nbs_length]
    by_cases h65 : (65536 : Int) < (L.length : Int)
    · rw [show decide ((65536 : Int) < (L.length : Int)) = true from decide_eq_true h65] at HT
      have HN : Hid (Q = ([], 180)) := by rw [Hid, HV.out, if_pos (by omega)]
      clear h65
      go_wp2_with fail
      refine (HT _).mono ?_
      rintro e w4 ⟨rfl, rfl⟩
      go_wp2
      go_ret2
      exact ⟨by rw [HN.out]; rfl, HB3.out⟩
    · rw [show decide ((65536 : Int) < (L.length : Int)) = false from decide_eq_false h65] at HT
      have HN : Hid (Q = (L, 0)) := by rw [Hid, HV.out, if_neg (by omega)]
      clear h65
      go_wp2_with fail
      refine (HT _).mono ?_
      rintro e w4 ⟨rfl, rfl⟩
      go_wp2
      go_ret2
      exact ⟨by rw [HN.out]; rfl, HB3.out⟩
end Go.Proofs.YtelhgjepjieocaaDoor

/- Layer 18 (json): the document's Space, hex. -/
namespace Go.Proofs.YtelhgjepjieocaaDoor
open Go.RowKit Go.Sort
set_option linter.unusedVariables false

theorem tl_hd {s : ByteArray} {n : Nat} (h : n < s.size) : hdN (tl s n) = some s[n].toNat := by rw [tl_cons h]; rfl
theorem tl_hd0 {s : ByteArray} {n : Nat} (h : ¬ n < s.size) : hdN (tl s n) = none := by rw [tl_nil (by omega)]; rfl
theorem tl_tail {s : ByteArray} {n : Nat} (h : n < s.size) : (tl s n).tail = tl s (n + 1) := by rw [tl_cons h]; rfl
set_option maxRecDepth 100000 in
set_option maxHeartbeats 4000000 in
theorem refSpace_calls (s : ByteArray) (n : Nat) (w : World) (hn : n ≤ s.size) (hs : s.size ≤ 1048576) :
    Calls Tryd.prog 26 #[.string s, .int .i64 (n : Int)] w (fun e w' => Below w.heap.size w w' ∧ ∃ m : Nat, e = .returned (.int .i64 (m : Int)) ∧ m ≤ s.size ∧ tl s m = spL (tl s n)) := by
  obtain ⟨L, HL⟩ : ∃ L : List UInt8, Hid (L = spL (tl s n)) := ⟨spL (tl s n), (Eq.refl _ : spL (tl s n) = _)⟩
  have HI : Hid (spL (tl s n) = L ∧ Below w.heap.size w w) := ⟨HL.out.symm, Below.refl _ _⟩
  rw [← HL.out]
  clear HL
  go_enter Tryd.func26, Tryd.ntmps26
  go_wp2
  go_loopw [1] (fun i wr => ∃ k : Nat, k ≤ s.size ∧ i = .int .i64 (k : Int) ∧ Hid (spL (tl s k) = L ∧ Below w.heap.size w wr)) (fun i _ => s.size - (intOf i).toNat)
  case atStart => exact ⟨n, hn, rfl, HI⟩
  case round =>
    clear HI
    obtain ⟨k, hk, rfl, HI⟩ := hrel
    by_cases hlt : k < s.size
    · by_cases hsp : isSpN s[k].toNat = true
      · have HN : Hid (spL (tl s (k + 1)) = L ∧ Below w.heap.size w wr) := ⟨by rw [← HI.out.1, ← tl_tail hlt, spL_yes (tl_hd hlt) hsp], HI.out.2⟩
        clear HI
        have h4 : s[k].toNat = 32 ∨ s[k].toNat = 9 ∨ s[k].toNat = 10 ∨ s[k].toNat = 13 := by simpa [isSpN, or_assoc] using hsp
        clear hsp
        rcases h4 with hc | hc | hc | hc
        · have q32 : ((s[k].toNat : Int) == 32) = true := by rw [hc]; rfl
          clear hc
          go_wp2
          go_roundw
          case rel => exact ⟨k + 1, by omega, by go_num, HN.out⟩
          case measure => simp [intOf]; omega
        · have q32 : ((s[k].toNat : Int) == 32) = false := by rw [hc]; rfl
          have q9 : ((s[k].toNat : Int) == 9) = true := by rw [hc]; rfl
          clear hc
          go_wp2
          go_roundw
          case rel => exact ⟨k + 1, by omega, by go_num, HN.out⟩
          case measure => simp [intOf]; omega
        · have q32 : ((s[k].toNat : Int) == 32) = false := by rw [hc]; rfl
          have q9 : ((s[k].toNat : Int) == 9) = false := by rw [hc]; rfl
          have q10 : ((s[k].toNat : Int) == 10) = true := by rw [hc]; rfl
          clear hc
          go_wp2
          go_roundw
          case rel => exact ⟨k + 1, by omega, by go_num, HN.out⟩
          case measure => simp [intOf]; omega
        · have q32 : ((s[k].toNat : Int) == 32) = false := by rw [hc]; rfl
          have q9 : ((s[k].toNat : Int) == 9) = false := by rw [hc]; rfl
          have q10 : ((s[k].toNat : Int) == 10) = false := by rw [hc]; rfl
          have q13 : ((s[k].toNat : Int) == 13) = true := by rw [hc]; rfl
          clear hc
          go_wp2
          go_roundw
          case rel => exact ⟨k + 1, by omega, by go_num, HN.out⟩
          case measure => simp [intOf]; omega
      · have hsp' : isSpN s[k].toNat = false := by simpa using hsp
        have HN : Hid (tl s k = L) := by rw [Hid, ← HI.out.1, spL_no (fun c hc => by rw [tl_hd hlt] at hc; cases hc; exact hsp')]
        have HB := HI.out.2
        have q : ∀ c : Nat, (c = 32 ∨ c = 9 ∨ c = 10 ∨ c = 13) → ((s[k].toNat : Int) == (c : Int)) = false := fun c hc => by
          have : s[k].toNat ≠ c := fun e => by rw [e] at hsp; rcases hc with rfl | rfl | rfl | rfl <;> exact hsp rfl
          simp; omega
        have q32 : ((s[k].toNat : Int) == 32) = false := q 32 (by simp)
        have q9 : ((s[k].toNat : Int) == 9) = false := q 9 (by simp)
        have q10 : ((s[k].toNat : Int) == 10) = false := q 10 (by simp)
        have q13 : ((s[k].toNat : Int) == 13) = false := q 13 (by simp)
        clear hsp hsp' q HI
        go_wp2
        go_ret
        exact ⟨HB, k, rfl, hk, HN.out⟩
    · have HN : Hid (tl s k = L) := by rw [Hid, ← HI.out.1, spL_no (fun c hc => by rw [tl_hd0 hlt] at hc; cases hc)]
      have HB := HI.out.2
      clear HI
      go_wp2
      go_ret
      exact ⟨HB, k, rfl, hk, HN.out⟩
set_option maxRecDepth 100000 in
set_option maxHeartbeats 4000000 in
theorem refHex_calls (c : Nat) (w : World) (hc : c < 256) :
    Calls Tryd.prog 65 #[.int .u8 (c : Int)] w (fun e w' => e = .returned (.int .i64 (match hexN c with | some d => (d : Int) | none => -1)) ∧ w' = w) := by
  have h7 : c ≤ 47 ∨ (48 ≤ c ∧ c ≤ 57) ∨ (58 ≤ c ∧ c ≤ 64) ∨ (65 ≤ c ∧ c ≤ 70) ∨ (71 ≤ c ∧ c ≤ 96) ∨ (97 ≤ c ∧ c ≤ 102) ∨ 103 ≤ c := by omega
  rcases h7 with h | h | h | h | h | h | h
  · have HE : Hid (hexN c = none) := by rw [Hid]; unfold hexN; rw [if_neg (by omega), if_neg (by omega), if_neg (by omega)]
    have g0 : ¬ ((48 : Int) ≤ (c : Int)) := by omega
    have l0 : (c : Int) ≤ 57 := by omega
    have g1 : ¬ ((97 : Int) ≤ (c : Int)) := by omega
    have l1 : (c : Int) ≤ 102 := by omega
    have g2 : ¬ ((65 : Int) ≤ (c : Int)) := by omega
    have l2 : (c : Int) ≤ 70 := by omega
    rw [HE.out]
    clear HE h
    go_enter Tryd.func65, Tryd.ntmps65
    go_wp2
    go_ret
    exact ⟨rfl, rfl⟩
  · have HE : Hid (hexN c = some (c - 48)) := by rw [Hid]; unfold hexN; rw [if_pos (by omega)]
    have g0 : (48 : Int) ≤ (c : Int) := by omega
    have l0 : (c : Int) ≤ 57 := by omega
    have g1 : ¬ ((97 : Int) ≤ (c : Int)) := by omega
    have l1 : (c : Int) ≤ 102 := by omega
    have g2 : ¬ ((65 : Int) ≤ (c : Int)) := by omega
    have l2 : (c : Int) ≤ 70 := by omega
    rw [HE.out]
    clear HE h
    go_enter Tryd.func65, Tryd.ntmps65
    go_wp2
    go_ret
    refine ⟨?_, rfl⟩
    show Ending.returned (.int .i64 _) = _
    congr 2
    omega
  · have HE : Hid (hexN c = none) := by rw [Hid]; unfold hexN; rw [if_neg (by omega), if_neg (by omega), if_neg (by omega)]
    have g0 : (48 : Int) ≤ (c : Int) := by omega
    have l0 : ¬ ((c : Int) ≤ 57) := by omega
    have g1 : ¬ ((97 : Int) ≤ (c : Int)) := by omega
    have l1 : (c : Int) ≤ 102 := by omega
    have g2 : ¬ ((65 : Int) ≤ (c : Int)) := by omega
    have l2 : (c : Int) ≤ 70 := by omega
    rw [HE.out]
    clear HE h
    go_enter Tryd.func65, Tryd.ntmps65
    go_wp2
    go_ret
    exact ⟨rfl, rfl⟩
  · have HE : Hid (hexN c = some (c - 55)) := by rw [Hid]; unfold hexN; rw [if_neg (by omega), if_neg (by omega), if_pos (by omega)]
    have g0 : (48 : Int) ≤ (c : Int) := by omega
    have l0 : ¬ ((c : Int) ≤ 57) := by omega
    have g1 : ¬ ((97 : Int) ≤ (c : Int)) := by omega
    have l1 : (c : Int) ≤ 102 := by omega
    have g2 : (65 : Int) ≤ (c : Int) := by omega
    have l2 : (c : Int) ≤ 70 := by omega
    rw [HE.out]
    clear HE h
    go_enter Tryd.func65, Tryd.ntmps65
    go_wp2
    go_ret
    refine ⟨?_, rfl⟩
    show Ending.returned (.int .i64 _) = _
    congr 2
    omega
  · have HE : Hid (hexN c = none) := by rw [Hid]; unfold hexN; rw [if_neg (by omega), if_neg (by omega), if_neg (by omega)]
    have g0 : (48 : Int) ≤ (c : Int) := by omega
    have l0 : ¬ ((c : Int) ≤ 57) := by omega
    have g1 : ¬ ((97 : Int) ≤ (c : Int)) := by omega
    have l1 : (c : Int) ≤ 102 := by omega
    have g2 : (65 : Int) ≤ (c : Int) := by omega
    have l2 : ¬ ((c : Int) ≤ 70) := by omega
    rw [HE.out]
    clear HE h
    go_enter Tryd.func65, Tryd.ntmps65
    go_wp2
    go_ret
    exact ⟨rfl, rfl⟩
  · have HE : Hid (hexN c = some (c - 87)) := by rw [Hid]; unfold hexN; rw [if_neg (by omega), if_pos (by omega)]
    have g0 : (48 : Int) ≤ (c : Int) := by omega
    have l0 : ¬ ((c : Int) ≤ 57) := by omega
    have g1 : (97 : Int) ≤ (c : Int) := by omega
    have l1 : (c : Int) ≤ 102 := by omega
    have g2 : (65 : Int) ≤ (c : Int) := by omega
    have l2 : ¬ ((c : Int) ≤ 70) := by omega
    rw [HE.out]
    clear HE h
    go_enter Tryd.func65, Tryd.ntmps65
    go_wp2
    go_ret
    refine ⟨?_, rfl⟩
    show Ending.returned (.int .i64 _) = _
    congr 2
    omega
  · have HE : Hid (hexN c = none) := by rw [Hid]; unfold hexN; rw [if_neg (by omega), if_neg (by omega), if_neg (by omega)]
    have g0 : (48 : Int) ≤ (c : Int) := by omega
    have l0 : ¬ ((c : Int) ≤ 57) := by omega
    have g1 : (97 : Int) ≤ (c : Int) := by omega
    have l1 : ¬ ((c : Int) ≤ 102) := by omega
    have g2 : (65 : Int) ≤ (c : Int) := by omega
    have l2 : ¬ ((c : Int) ≤ 70) := by omega
    rw [HE.out]
    clear HE h
    go_enter Tryd.func65, Tryd.ntmps65
    go_wp2
    go_ret
    exact ⟨rfl, rfl⟩
end Go.Proofs.YtelhgjepjieocaaDoor
