import Derived.Test.YtelhgjepjieocaaDoorJxParse
import Derived.Test.YtelhgjepjieocaaDoorJxPrint
import Derived.Test.YtelhgjepjieocaaDoorJxMk
/- Layer 18 (json): brackets within brackets (plain). -/
namespace Go.Proofs.YtelhgjepjieocaaDoor
open Go.RowKit Go.Sort
set_option linter.unusedVariables false

/-- What stands ahead of the number, what stands behind it, and the value: the outermost first. -/
def hdL : List Bool → List UInt8
  | [] => []
  | true :: R => 91 :: hdL R
  | false :: R => 123 :: 34 :: 97 :: 34 :: 58 :: hdL R
def tlD : List Bool → List UInt8
  | [] => []
  | true :: R => tlD R ++ [93]
  | false :: R => tlD R ++ [125]
def valN : List Bool → Js
  | [] => .mk 3 7 [] [] []
  | true :: R => .mk 5 0 [] [] [valN R]
  | false :: R => .mk 6 0 [] [[97]] [valN R]
def midL (R : List Bool) (rest : List UInt8) : List UInt8 := hdL R ++ 55 :: (tlD R ++ rest)
theorem midL_hd (R : List Bool) (rest : List UInt8) : ∃ c l, midL R rest = c :: l ∧ (c = 91 ∨ c = 123 ∨ c = 55) := by
  cases R with
  | nil => exact ⟨55, _, rfl, .inr (.inr rfl)⟩
  | cons b R =>
    cases b with
    | true => exact ⟨91, _, rfl, .inl rfl⟩
    | false => exact ⟨123, _, rfl, .inr (.inl rfl)⟩
theorem midL_sp (R : List Bool) (rest : List UInt8) : spL (midL R rest) = midL R rest := by
  obtain ⟨c, l, e, h⟩ := midL_hd R rest
  rw [e]
  rcases h with rfl | rfl | rfl <;> rfl
theorem hd_ne {c : UInt8} {l : List UInt8} {n : Nat} (h : c.toNat ≠ n) : ¬ hdN (c :: l) = some n := fun e => h (Option.some.inj e)
theorem midL_ne (R : List Bool) (rest : List UInt8) : hdN (midL R rest) ≠ some 93 ∧ hdN (midL R rest) ≠ some 125 := by
  obtain ⟨c, l, e, h⟩ := midL_hd R rest
  rw [e]
  rcases h with rfl | rfl | rfl <;> exact ⟨hd_ne (by decide), hd_ne (by decide)⟩
theorem numP_7 (rest : List UInt8) (h : ∀ x l, rest = x :: l → dgU x = false) : numP (55 :: rest) = some (3, 7, rest) := by
  have h1 : rest.takeWhile dgU = [] ∧ rest.dropWhile dgU = rest := by
    cases rest with
    | nil => exact ⟨rfl, rfl⟩
    | cons x l =>
      have := h x l rfl
      rw [List.takeWhile_cons, List.dropWhile_cons, this]
      exact ⟨rfl, rfl⟩
  have ht : numT (55 :: rest) = [55] := by
    unfold numT
    rw [if_neg (hd_ne (by decide)), tkL_no (hd_ne (by decide)), List.takeWhile_cons, show dgU 55 = true by decide, if_pos rfl, h1.1]
    rfl
  have hr : numR (55 :: rest) = rest := by
    unfold numR
    rw [tkL_no (hd_ne (by decide)), List.dropWhile_cons, show dgU 55 = true by decide, if_pos rfl, h1.2]
  unfold numP
  rw [ht, hr, show Lib.parseIntB 64 [55] = .ok 7 by kernel_rfl]
  show (if Lib.itoa 7 = [55] then _ else _) = _
  rw [if_pos (by kernel_rfl)]
theorem nameP_a (l : List UInt8) : nameP [] (34 :: 97 :: 34 :: 58 :: l) = .ok ([97], l) := by
  have h : textP (34 :: 97 :: 34 :: 58 :: l) = some ([97], 58 :: l) := by
    unfold textP
    rw [if_pos (by rfl)]
    show chF (l.length + 1 + 1 + 1 + 1) (97 :: 34 :: 58 :: l) = _
    rw [chF_step (hd_ne (by decide))]
    show (chF (l.length + 3) (34 :: 58 :: l)).map (fun p => ((97 : Nat).toUInt8 :: p.1, p.2)) = _
    rw [chF_end (by rfl)]
    rfl
  unfold nameP
  rw [show spL (34 :: 97 :: 34 :: 58 :: l) = 34 :: 97 :: 34 :: 58 :: l from rfl, h]
  show (if ([97] : List UInt8) ∈ ([] : List (List UInt8)) then _ else if hdN (spL (58 :: l)) = some 58 then _ else _) = _
  rw [if_neg (by simp), if_pos (by rfl)]
  rfl
theorem bareF_deep : ∀ (R : List Bool) (k d : Nat) (rest : List UInt8), 2 * R.length + 1 ≤ k → d ≤ 16 → (∀ x l, rest = x :: l → dgU x = false) → bareF k d (midL R rest) = if d + R.length ≤ 16 then .ok (valN R, rest) else .error 182
  | [], k + 1, d, rest, hk, hd, hr => by
    rw [if_pos (by simpa using hd)]
    show bareF (k + 1) d (55 :: rest) = _
    unfold bareF
    rw [if_neg (hd_ne (by decide)), if_neg (hd_ne (by decide)), if_neg (hd_ne (by decide)), if_pos (.inr (by show dgN 55 = true; decide)), numP_7 rest hr]
    rfl
  | true :: R, k + 1, d, rest, hk, hd, hr => by
    have e : midL (true :: R) rest = 91 :: midL R (93 :: rest) := by unfold midL; simp [hdL, tlD]
    rw [e]
    unfold bareF
    rw [if_pos (by rfl)]
    by_cases h16 : d = 16
    · rw [if_pos h16, if_neg (by simp; omega)]
    · obtain ⟨k', rfl⟩ : ∃ k', k = k' + 1 := ⟨k - 1, by simp at hk; omega⟩
      rw [if_neg h16]
      rw [show spL (91 :: midL R (93 :: rest)).tail = midL R (93 :: rest) from midL_sp R _, if_neg (midL_ne R _).1]
      unfold elF
      rw [show elN 5 [] (midL R (93 :: rest)) = .ok ([], midL R (93 :: rest)) from rfl]
      simp only [midL_sp]
      rw [bareF_deep R k' (d + 1) (93 :: rest) (by simp at hk; omega) (by omega) (fun x l h => by cases h; decide)]
      simp only [List.length_cons]
      by_cases h : d + 1 + R.length ≤ 16
      · rw [if_pos h, if_pos (by omega)]
        rfl
      · rw [if_neg h, if_neg (by omega)]
  | false :: R, k + 1, d, rest, hk, hd, hr => by
    have e : midL (false :: R) rest = 123 :: 34 :: 97 :: 34 :: 58 :: midL R (125 :: rest) := by unfold midL; simp [hdL, tlD]
    rw [e]
    unfold bareF
    rw [if_neg (hd_ne (by decide)), if_pos (by rfl)]
    by_cases h16 : d = 16
    · rw [if_pos h16, if_neg (by simp; omega)]
    · obtain ⟨k', rfl⟩ : ∃ k', k = k' + 1 := ⟨k - 1, by simp at hk; omega⟩
      rw [if_neg h16]
      rw [show spL (123 :: 34 :: 97 :: 34 :: 58 :: midL R (125 :: rest)).tail = 34 :: 97 :: 34 :: 58 :: midL R (125 :: rest) from rfl, if_neg (hd_ne (by decide))]
      unfold elF
      have hn : elN 6 [] (34 :: 97 :: 34 :: 58 :: midL R (125 :: rest)) = .ok ([[97]], midL R (125 :: rest)) := by
        unfold elN
        rw [if_pos rfl, nameP_a]
        rfl
      rw [hn]
      simp only [midL_sp]
      rw [bareF_deep R k' (d + 1) (125 :: rest) (by simp at hk; omega) (by omega) (fun x l h => by cases h; decide)]
      simp only [List.length_cons]
      by_cases h : d + 1 + R.length ≤ 16
      · rw [if_pos h, if_pos (by omega)]
        rfl
      · rw [if_neg h, if_neg (by omega)]
theorem hdL_len : ∀ R : List Bool, (hdL R).length ≤ 5 * R.length ∧ (tlD R).length = R.length ∧ R.length ≤ (hdL R).length
  | [] => ⟨Nat.le_refl _, rfl, Nat.le_refl _⟩
  | true :: R => by
    have := hdL_len R
    simp [hdL, tlD]
    omega
  | false :: R => by
    have := hdL_len R
    simp [hdL, tlD]
    omega
theorem parseJ_deep (R : List Bool) (h : R.length ≤ 1000) : parseJ (nmB (midL R [])) = if R.length ≤ 16 then .ok (valN R) else .error 182 := by
  have hl := hdL_len R
  have hs : (nmB (midL R [])).size = (midL R []).length := by unfold nmB; simp [ByteArray.size]
  have hm : (midL R []).length = (hdL R).length + 1 + (tlD R).length := by unfold midL; simp; omega
  unfold parseJ
  rw [if_neg (by omega), show tl (nmB (midL R [])) 0 = midL R [] by unfold tl nmB; simp]
  unfold valF
  rw [midL_sp, bareF_deep R _ 0 [] (by omega) (by omega) (fun x l h => by cases h)]
  simp only [Nat.zero_add]
  by_cases h16 : R.length ≤ 16
  · rw [if_pos h16, if_pos h16]
    rfl
  · rw [if_neg h16, if_neg h16]
    rfl
theorem sound_deep : ∀ (R : List Bool) (d : Nat), soundJ (valN R) d = decide (R = [] ∨ d + R.length ≤ 16)
  | [], d => by
    unfold valN soundJ
    simp
  | true :: R, d => by
    unfold valN soundJ
    rw [Bool.eq_iff_iff]
    simp [allS, sound_deep R (d + 1)]
    cases R with
    | nil => simp; first | done | omega
    | cons b R => simp; omega
  | false :: R, d => by
    unfold valN soundJ
    rw [Bool.eq_iff_iff]
    simp [allS, sound_deep R (d + 1)]
    cases R with
    | nil => simp; first | done | omega
    | cons b R => simp; omega
theorem valP_deep : ∀ (R : List Bool) (l : List Nat), l.length + 6 * R.length + 10 ≤ 65536 → valP (valN R) l = l ++ (midL R []).map UInt8.toNat
  | [], l, h => by
    unfold valN valP
    rw [if_neg (by decide), if_pos rfl, show numD 7 = [55] by kernel_rfl]
    rfl
  | true :: R, l, h => by
    have e : midL (true :: R) [] = 91 :: (midL R [] ++ [93]) := by unfold midL; simp [hdL, tlD]
    rw [e]
    unfold valN valP
    rw [if_neg (by decide), if_neg (by decide), if_neg (by decide), if_pos rfl]
    simp only [List.length_cons] at h
    unfold itsP
    rw [if_neg (by simp; omega)]
    show itsP false false _ [] (valP (valN R) (l ++ [91])) ++ [93] = _
    unfold itsP
    rw [valP_deep R _ (by simp; omega)]
    simp
  | false :: R, l, h => by
    have e : midL (false :: R) [] = 123 :: 34 :: 97 :: 34 :: 58 :: (midL R [] ++ [125]) := by unfold midL; simp [hdL, tlD]
    rw [e]
    unfold valN valP
    rw [if_neg (by decide), if_neg (by decide), if_neg (by decide), if_neg (by decide), if_pos rfl]
    simp only [List.length_cons] at h
    unfold itsP
    rw [if_neg (by simp; omega)]
    have ht : txtP (nmB [97]) (l ++ [123]) = l ++ [123, 34, 97, 34] := by
      unfold txtP
      rw [show bytesN (nmB [97]) 0 = [97] from rfl]
      unfold chrsP
      rw [if_neg (by simp; omega)]
      unfold chrsP
      rw [show chrP 97 = [97] from rfl]
      simp
    show itsP true false _ [] (valP (valN R) (txtP (nmB [97]) (l ++ [123]) ++ [58])) ++ [125] = _
    unfold itsP
    rw [ht, valP_deep R _ (by simp; omega)]
    simp
theorem printJ_deep (R : List Bool) (h : R.length ≤ 1000) : (R.length ≤ 16 → bytesOfN (printJ (valN R)).1 = midL R [] ∧ (printJ (valN R)).2 = 0) ∧ (¬ R.length ≤ 16 → bytesOfN (printJ (valN R)).1 = [] ∧ (printJ (valN R)).2 = 184) := by
  have hs := sound_deep R 0
  have hl := hdL_len R
  have hm : (midL R []).length = (hdL R).length + 1 + (tlD R).length := by unfold midL; simp; omega
  refine ⟨fun h16 => ?_, fun h16 => ?_⟩
  · have hp : printJ (valN R) = ((midL R []).map UInt8.toNat, 0) := by
      unfold printJ
      rw [hs, if_pos (by simp; omega), valP_deep R [] (by simp; omega), List.nil_append, if_neg (by rw [List.length_map]; omega)]
    rw [hp]
    refine ⟨?_, rfl⟩
    unfold bytesOfN
    rw [List.map_map]
    exact (List.map_congr_left fun c _ => by simp).trans (List.map_id _)
  · have hp : printJ (valN R) = ([], 184) := by
      unfold printJ
      rw [hs, if_neg]
      simp
      refine ⟨?_, by omega⟩
      rintro rfl
      simp at h16
    rw [hp]
    exact ⟨rfl, rfl⟩
theorem rng_deep : ∀ R : List Bool, Rng (valN R)
  | [] => by
    unfold valN Rng Rngs
    exact ⟨by omega, by simp, by simp, by simp, fun s h => (by cases h), trivial⟩
  | true :: R => by
    unfold valN Rng Rngs Rngs
    exact ⟨by omega, by simp, by simp, by simp, fun s h => (by cases h), rng_deep R, trivial⟩
  | false :: R => by
    unfold valN Rng Rngs Rngs
    exact ⟨by omega, by simp, by simp, by simp, fun s h => by simp at h; subst h; simp, rng_deep R, trivial⟩
theorem fit_deep : ∀ R : List Bool, Fit (valN R)
  | [] => by
    unfold valN Fit Fits
    exact ⟨by simp, by simp, by simp, fun s h => (by cases h), trivial⟩
  | true :: R => by
    unfold valN Fit Fits Fits
    exact ⟨by simp, by simp, by simp, fun s h => (by cases h), fit_deep R, trivial⟩
  | false :: R => by
    unfold valN Fit Fits Fits
    exact ⟨by simp, by simp, by simp, fun s h => by simp at h; subst h; simp, fit_deep R, trivial⟩
end Go.Proofs.YtelhgjepjieocaaDoor

/- Layer 18 (json): the chapter's example. -/
namespace Go.Proofs.YtelhgjepjieocaaDoor
open Go.RowKit Go.MapKept Go.Sort
set_option linter.unusedVariables false

def exS : ByteArray := ⟨#[32, 123, 34, 97, 34, 58, 32, 91, 49, 44, 32, 45, 50, 44, 32, 34, 120, 92, 117, 48, 48, 48, 65, 34, 93, 125, 32]⟩
def exV : Js := .mk 6 0 [] [[97]] [.mk 5 0 [] [] [.mk 3 1 [] [] [], .mk 3 (-2) [] [] [], .mk 4 0 [120, 10] [] []]]
set_option maxRecDepth 100000 in
theorem parse_ex : parseJ exS = .ok exV := by kernel_rfl
set_option maxRecDepth 100000 in
theorem print_ex : printJ exV = ([123, 34, 97, 34, 58, 91, 49, 44, 45, 50, 44, 34, 120, 92, 110, 34, 93, 125], 0) := by kernel_rfl
theorem rng_ex : Rng exV := by
  unfold exV
  simp [Rng, Rngs]
theorem bytes_ex : (⟨(bytesOfN [123, 34, 97, 34, 58, 91, 49, 44, 45, 50, 44, 34, 120, 92, 110, 34, 93, 125]).toArray⟩ : ByteArray) = ⟨#[123, 34, 97, 34, 58, 91, 49, 44, 45, 50, 44, 34, 120, 92, 110, 34, 93, 125]⟩ := rfl
set_option maxRecDepth 100000 in
set_option maxHeartbeats 4000000 in
theorem alive_calls (w : World) (hv : Vs w) : Calls Tryd.prog 9 #[] w (fun e w' => e = .returned (.bool true) ∧ Below w.heap.size w w') := by
  have HP := parseJ_calls exS w (by decide) hv
  rw [parse_ex] at HP
  have HV : Hid (Vs w) := hv
  clear hv
  go_enter Tryd.func9, Tryd.ntmps9
  go_wp2_with fail
  refine HP.mono ?_
  clear HP
  rintro e w1 ⟨hb1, cs, S, rfl, hj, hs⟩
  obtain ⟨xk, xn, xt, xa, xl, xc, ya, yl, yc, hcs⟩ := JAt.cs hj
  subst hcs
  have HB1 : Hid (Below w.heap.size w w1 ∧ JAt w1 S exV _ ∧ ∀ k, S k → k < w1.heap.size) := ⟨hb1, hj, fun k hk => (hs k hk).2⟩
  clear hb1 hj hs
  obtain ⟨w2, Hw2⟩ : ∃ w2, Hid (w2 = w1.alloc (.cells #[.int .i64 xk, .int .i64 xn, .string xt, .slice xa xl xc, .slice ya yl yc] 26)) := ⟨_, rfl⟩
  obtain ⟨g, Hg⟩ : ∃ g, Hid (g = w1.heap.size) := ⟨_, rfl⟩
  have HBg : Hid (Blk w2 g #[.int .i64 xk, .int .i64 xn, .string xt, .slice xa xl xc, .slice ya yl yc] 26) := by rw [Hid, Hw2.out, Hg.out]; exact Blk.new _ _ _
  have HF2 : Hid (Below w1.heap.size w1 w2) := by rw [Hid, Hw2.out]; exact below_new _ _
  have HB2 : Hid (Below w.heap.size w w2) := HB1.out.1.trans (HF2.out.mono HB1.out.1.size)
  have HP := print_calls exV w2 S _ rng_ex (HB1.out.2.1.below HF2.out) (fun k hk => Nat.lt_of_lt_of_le (HB1.out.2.2 k hk) HF2.out.size) (HV.out.stay HB2.out)
  rw [print_ex] at HP
  simp only [] at HP
  rw [bytes_ex] at HP
  obtain ⟨x0, x1, x2, x3, x4, -⟩ := Blk.five HBg.out
  go_upto_region 2 with fail
  rw [← Hw2.out, ← Hg.out]
  clear Hw2 Hg
  go_wp2_with fail
  refine HP.mono ?_
  clear HP
  rintro e w3 ⟨rfl, hb3⟩
  have HB3 : Hid (Below w.heap.size w w3) := HB2.out.trans (hb3.mono HB2.out.size)
  clear hb3
  go_wp2
  go_ret
  exact ⟨rfl, HB3.out⟩
end Go.Proofs.YtelhgjepjieocaaDoor
