import Derived.Test.YtelhgjepjieocaaDoorJxSame
import Derived.Test.YtelhgjepjieocaaDoorJxRfM
import Derived.Test.YtelhgjepjieocaaDoorJxParse
import Derived.Test.YtelhgjepjieocaaDoorJxPrint
import Derived.Test.YtelhgjepjieocaaDoorJxRv
/- Layer 18 (json): a parsed value's numbers and lengths are in their ranges. -/
namespace Go.Proofs.YtelhgjepjieocaaDoor
open Go.RowKit Go.MapKept Go.Sort
set_option linter.unusedVariables false

theorem chF_tlen : ∀ (k : Nat) {l t r : List UInt8}, chF k l = some (t, r) → t.length ≤ l.length
  | 0, l, t, r, h => by cases h
  | k + 1, l, t, r, h => by
    by_cases h34 : hdN l = some 34
    · rw [chF_end h34] at h
      simp only [Option.some.injEq, Prod.mk.injEq] at h
      rw [← h.1]; simp
    · rw [chF_step h34] at h
      cases hc : charP l with
      | none => rw [hc] at h; cases h
      | some p =>
        obtain ⟨c, r'⟩ := p
        rw [hc] at h
        have e9 : chS k (some (c, r')) = (chF k r').map fun p => (c.toUInt8 :: p.1, p.2) := rfl
        rw [e9] at h
        cases hk : chF k r' with
        | none => rw [hk] at h; cases h
        | some q =>
          obtain ⟨t', r2⟩ := q
          rw [hk] at h
          simp only [Option.map_some, Option.some.injEq, Prod.mk.injEq] at h
          have h1 := chF_tlen k hk
          have h2 := (charP_len hc).2
          rw [← h.1, List.length_cons]; omega
theorem textP_tlen {l t r : List UInt8} (h : textP l = some (t, r)) : t.length ≤ l.length := by
  unfold textP at h
  split at h
  · have h1 := chF_tlen _ h
    rw [List.length_tail] at h1
    omega
  · cases h
theorem docN_rng {l r : List UInt8} {v : Int} (h : docN l = some (v, r)) : -9223372036854775808 ≤ v ∧ v ≤ 9223372036854775807 := by
  unfold docN at h
  split at h
  · cases h
  · split at h
    · split at h
      · cases h
      · simp only [Option.some.injEq, Prod.mk.injEq] at h
        omega
    · split at h
      · cases h
      · simp only [Option.some.injEq, Prod.mk.injEq] at h
        omega
theorem wordP_rng {l r : List UInt8} {k v : Int} (h : wordP l = some (k, v, r)) : -9223372036854775808 ≤ v ∧ v ≤ 9223372036854775807 := by
  unfold wordP at h
  split at h
  · simp only [Option.some.injEq, Prod.mk.injEq] at h; omega
  · split at h
    · simp only [Option.some.injEq, Prod.mk.injEq] at h; omega
    · split at h
      · simp only [Option.some.injEq, Prod.mk.injEq] at h; omega
      · cases h
theorem Rngs.push {x : Js} (hx : Rng x) : ∀ {its : List Js}, Rngs its → Rngs (its ++ [x])
  | [], _ => by
    show Rngs [x]
    unfold Rngs Rngs; exact ⟨hx, trivial⟩
  | y :: ys, h => by
    unfold Rngs at h
    show Rngs (y :: (ys ++ [x]))
    unfold Rngs; exact ⟨h.1, Rngs.push hx h.2⟩
theorem rng_mk {k n : Int} {t : List UInt8} {ns : List (List UInt8)} {its : List Js} (h1 : -9223372036854775808 ≤ n ∧ n ≤ 9223372036854775807) (h2 : t.length ≤ 1048576) (h3 : ns.length ≤ 140737488355328) (h4 : its.length ≤ 140737488355328) (h5 : ∀ s ∈ ns, s.length ≤ 1048576) (h6 : Rngs its) : Rng (.mk k n t ns its) := by
  unfold Rng
  exact ⟨h1, by omega, h3, h4, fun s hs => by have := h5 s hs; omega, h6⟩
theorem rngs_nil : Rngs [] := by unfold Rngs; trivial
theorem rng_plain {k n : Int} {t : List UInt8} (h1 : -9223372036854775808 ≤ n ∧ n ≤ 9223372036854775807) (h2 : t.length ≤ 1048576) : Rng (.mk k n t [] []) := rng_mk h1 h2 (by simp) (by simp) (fun s hs => by cases hs) rngs_nil
theorem bareF_rng : ∀ (k : Nat), (∀ (d : Nat) (l : List UInt8) (x : Js) (r : List UInt8), bareF k d l = .ok (x, r) → l.length ≤ 1048576 → k ≤ 4194304 → Rng x) ∧
    (∀ (kind : Int) (e d : Nat) (l : List UInt8) (ns : List (List UInt8)) (its : List Js) (x : Js) (r : List UInt8), elF k kind e d l ns its = .ok (x, r) → l.length ≤ 1048576 → Rngs its → (∀ t ∈ ns, t.length ≤ 1048576) → k ≤ 4194304 → ns.length + k ≤ 8388608 → its.length + k ≤ 8388608 → Rng x)
  | 0 => ⟨fun d l x r h => (by unfold bareF at h; cases h), fun kind e d l ns its x r h => (by unfold elF at h; cases h)⟩
  | k + 1 => by
    obtain ⟨ih1, ih2⟩ := bareF_rng k
    refine ⟨fun d l x r h hl hk => ?_, fun kind e d l ns its x r h hl hi hn hk hk1 hk2 => ?_⟩
    · unfold bareF at h
      have h0 := spL_len l.tail
      have h00 : l.tail.length ≤ l.length := by simp
      have hw : ∀ (kind : Int) (e : Nat), (if d = 16 then Except.error 182 else if hdN (spL l.tail) = some e then .ok (.mk kind 0 [] [] [], (spL l.tail).tail) else elF k kind e d (spL l.tail) [] []) = Except.ok (x, r) → Rng x := fun kind e h => by
        split at h
        · cases h
        · split at h
          · cases h; exact rng_plain (by omega) (by simp)
          · exact ih2 _ _ _ _ _ _ _ _ h (by omega) rngs_nil (fun t ht => by cases ht) (by omega) (by simp; omega) (by simp; omega)
      split at h
      · exact hw _ _ h
      · split at h
        · exact hw _ _ h
        · split at h
          · cases ht : textP l with
            | none => rw [ht] at h; cases h
            | some p =>
              obtain ⟨t, r'⟩ := p
              rw [ht] at h
              cases h
              have := textP_tlen ht
              exact rng_plain (by omega) (by omega)
          · split at h
            · rw [numP_doc] at h
              cases ht : docN l with
              | none => rw [ht] at h; cases h
              | some p =>
                obtain ⟨b, r'⟩ := p
                rw [ht] at h
                cases h
                exact rng_plain (docN_rng ht) (by simp)
            · cases ht : wordP l with
              | none => rw [ht] at h; cases h
              | some p =>
                obtain ⟨a, b, r'⟩ := p
                rw [ht] at h
                cases h
                exact rng_plain (wordP_rng ht) (by simp)
    · unfold elF at h
      have hN : ∀ ns' l1, elN kind ns l = .ok (ns', l1) → l1.length ≤ l.length ∧ (∀ t ∈ ns', t.length ≤ 1048576) ∧ ns'.length ≤ ns.length + 1 := fun ns' l1 h => by
        unfold elN at h
        split at h
        · split at h
          · rename_i t r2 hq
            cases h
            refine ⟨nameP_len hq, fun u hu => ?_, by simp⟩
            rcases List.mem_append.1 hu with hu | hu
            · exact hn u hu
            · rw [List.mem_singleton.1 hu]
              unfold nameP at hq
              split at hq
              · cases hq
              · rename_i t9 r9 ht
                have h1 := textP_tlen ht
                have h2 := spL_len l
                split at hq
                · cases hq
                · split at hq
                  · cases hq; omega
                  · cases hq
          · cases h
        · cases h; exact ⟨Nat.le_refl _, hn, by omega⟩
      split at h
      · cases h
      · rename_i ns' l1 hq
        obtain ⟨h1, hn', hn2⟩ := hN _ _ hq
        split at h
        · cases h
        · rename_i y r1 hb
          have h3 := spL_len l1
          have hy := ih1 _ _ _ _ hb (by omega) (by omega)
          have h2 := (bareF_lens k).1 _ _ _ _ hb
          have h4 := spL_len r1
          have hi2 := Rngs.push hy hi
          split at h
          · cases h
            exact rng_mk (by omega) (by simp) (by omega) (by simp; omega) hn' hi2
          · split at h
            · refine ih2 _ _ _ _ _ _ _ _ h ?_ hi2 hn' (by omega) (by omega) (by simp; omega)
              rw [List.length_tail]; omega
            · cases h
theorem parseJ_rng {s : ByteArray} {v : Js} (h : parseJ s = .ok v) : Rng v := by
  unfold parseJ at h
  split at h
  · cases h
  · rename_i hs
    unfold valF at h
    have h0 := spL_len (tl s 0)
    have hl := tl_length s 0
    cases hb : bareF (2 * s.size + 1) 0 (spL (tl s 0)) with
    | error c => rw [hb] at h; cases h
    | ok p =>
      obtain ⟨x, r⟩ := p
      rw [hb] at h
      have hx := (bareF_rng _).1 _ _ _ _ hb (by omega) (by omega)
      have h' : (if spL r = [] then Except.ok x else Except.error 181) = Except.ok (ε := Int) v := h
      split at h'
      · cases h'; exact hx
      · cases h'
end Go.Proofs.YtelhgjepjieocaaDoor

/- Layer 18 (json): the chapter's example. -/
namespace Go.Proofs.YtelhgjepjieocaaDoor
open Go.RowKit Go.MapKept Go.Sort
set_option linter.unusedVariables false

def exS : ByteArray := ⟨#[32, 123, 34, 97, 34, 58, 32, 91, 49, 44, 32, 45, 50, 44, 32, 34, 120, 92, 117, 48, 48, 48, 65, 34, 93, 125, 32]⟩
def exV : Js := .mk 6 0 [] [[97]] [.mk 5 0 [] [] [.mk 3 1 [] [] [], .mk 3 (-2) [] [] [], .mk 4 0 [120, 10] [] []]]
set_option maxRecDepth 100000 in
theorem parse_ex : parseJ exS = .ok exV := by kernel_rfl
set_option maxRecDepth 100000 in
theorem print_ex : printJ exV = ([123, 34, 97, 34, 58, 91, 49, 44, 45, 50, 44, 34, 120, 92, 110, 34, 93, 125], 0) := by kernel_rfl
theorem rng_ex : Rng exV := by
  unfold exV
  simp [Rng, Rngs]
theorem bytes_ex : (⟨(bytesOfN [123, 34, 97, 34, 58, 91, 49, 44, 45, 50, 44, 34, 120, 92, 110, 34, 93, 125]).toArray⟩ : ByteArray) = ⟨#[123, 34, 97, 34, 58, 91, 49, 44, 45, 50, 44, 34, 120, 92, 110, 34, 93, 125]⟩ := rfl
set_option maxRecDepth 100000 in
set_option maxHeartbeats 4000000 in
theorem alive_calls (w : World) (hv : Vs w) : Calls Tryd.prog 9 #[] w (fun e w' => e = .returned (.bool true) ∧ Below w.heap.size w w') := by
  have HP := parseJ_calls exS w (by decide) hv
  rw [parse_ex] at HP
  have HV : Hid (Vs w) := hv
  clear hv
  go_enter Tryd.func9, Tryd.ntmps9
  go_wp2_with fail
  refine HP.mono ?_
  clear HP
  rintro e w1 ⟨hb1, cs, S, rfl, hj, hs⟩
  obtain ⟨xk, xn, xt, xa, xl, xc, ya, yl, yc, hcs⟩ := JAt.cs hj
  subst hcs
  have HB1 : Hid (Below w.heap.size w w1 ∧ JAt w1 S exV _ ∧ ∀ k, S k → k < w1.heap.size) := ⟨hb1, hj, fun k hk => (hs k hk).2⟩
  clear hb1 hj hs
  obtain ⟨w2, Hw2⟩ : ∃ w2, Hid (w2 = w1.alloc (.cells #[.int .i64 xk, .int .i64 xn, .string xt, .slice xa xl xc, .slice ya yl yc] 26)) := ⟨_, rfl⟩
  obtain ⟨g, Hg⟩ : ∃ g, Hid (g = w1.heap.size) := ⟨_, rfl⟩
  have HBg : Hid (Blk w2 g #[.int .i64 xk, .int .i64 xn, .string xt, .slice xa xl xc, .slice ya yl yc] 26) := by rw [Hid, Hw2.out, Hg.out]; exact Blk.new _ _ _
  have HF2 : Hid (Below w1.heap.size w1 w2) := by rw [Hid, Hw2.out]; exact below_new _ _
  have HB2 : Hid (Below w.heap.size w w2) := HB1.out.1.trans (HF2.out.mono HB1.out.1.size)
  have HP := print_calls exV w2 S _ rng_ex (HB1.out.2.1.below HF2.out) (fun k hk => Nat.lt_of_lt_of_le (HB1.out.2.2 k hk) HF2.out.size) (HV.out.stay HB2.out)
  rw [print_ex] at HP
  simp only [] at HP
  rw [bytes_ex] at HP
  obtain ⟨x0, x1, x2, x3, x4, -⟩ := Blk.five HBg.out
  go_upto_region 2 with fail
  rw [← Hw2.out, ← Hg.out]
  clear Hw2 Hg
  go_wp2_with fail
  refine HP.mono ?_
  clear HP
  rintro e w3 ⟨rfl, hb3⟩
  have HB3 : Hid (Below w.heap.size w w3) := HB2.out.trans (hb3.mono HB2.out.size)
  clear hb3
  go_wp2
  go_ret
  exact ⟨rfl, HB3.out⟩
end Go.Proofs.YtelhgjepjieocaaDoor

/- Layer 18 (json): the law JsonParses. -/
namespace Go.Proofs.YtelhgjepjieocaaDoor
open Go.RowKit Go.Sort
set_option linter.unusedVariables false

def js0 : Js := .mk 0 0 [] [] []
theorem js0_rng : Rng js0 := rng_plain (by omega) (by simp)
theorem js0_at (w : World) : JAt w (fun _ => False) js0 jZ := JAt.plain w 0 0 []
/-- What Parse answers, value and error. -/
def ansJ : Except Int Js → Js × Int
  | .ok v => (v, 0)
  | .error c => (js0, c)
/-- What Parse leaves: a value in memory of its own. -/
def PaR (w : World) (r : Js × Int) (e : Ending) (w' : World) : Prop :=
  Below w.heap.size w w' ∧ ∃ cs S, e = .returned (.tuple #[.agg cs, .int .i64 r.2]) ∧ JAt w' S r.1 cs ∧ ∀ k, S k → w.heap.size ≤ k ∧ k < w'.heap.size
theorem PrR.pa {w w' : World} {r : Except Int Js} {e : Ending} (h : PrR w r e w') : PaR w (ansJ r) e w' := by
  obtain ⟨hb, h⟩ := h
  cases r with
  | ok v => exact ⟨hb, h⟩
  | error c => exact ⟨hb, jZ, fun _ => False, h.1, js0_at _, fun k hk => hk.elim⟩
theorem ansJ_rng (s : ByteArray) : Rng (ansJ (parseJ s)).1 := by
  cases h : parseJ s with
  | ok v => exact parseJ_rng h
  | error c => exact js0_rng
set_option maxRecDepth 100000 in
set_option maxHeartbeats 4000000 in
theorem jsonParses_calls (s : ByteArray) (w : World) (hs : s.size ≤ 140737488351232) (hv : Vs w) : Calls Tryd.prog 3 #[.string s] w (fun e w' => e = .returned (.bool true) ∧ Below w.heap.size w w') := by
  have HA := alive_calls w hv
  obtain ⟨v, c, hvc⟩ : ∃ v c, ansJ (parseJ s) = (v, c) := ⟨_, _, rfl⟩
  have hrv := ansJ_rng s
  rw [hvc] at hrv
  have HG : ∀ W : World, Calls Tryd.prog 10 #[.string s] W (PaR W (v, c)) := fun W => (refParse_calls s W hs).mono fun e w' h => by rw [← hvc]; exact h.pa
  have HP : ∀ W : World, Vs W → Calls Tryd.prog 11 #[.string s] W (PaR W (v, c)) := fun W hW => (parseJ_calls s W hs hW).mono fun e w' h => by rw [← hvc]; exact h.pa
  have HV : Hid (Vs w ∧ Rng v) := ⟨hv, hrv⟩
  clear hv hvc hrv
  go_enter Tryd.func3, Tryd.ntmps3
  go_wp2_with fail
  refine HA.mono ?_
  clear HA
  rintro e w1 ⟨rfl, hb1⟩
  have HB1 : Hid (Below w.heap.size w w1) := hb1
  have HG1 := HG w1
  clear hb1 HG
  go_wp2_with fail
  refine HG1.mono ?_
  clear HG1
  rintro e w2 ⟨hb2, cs, S, rfl, hj, hS⟩
  obtain ⟨xk, xn, xt, xa, xl, xc, ya, yl, yc, hcs⟩ := JAt.cs hj
  subst hcs
  obtain ⟨w3, Hw3⟩ : ∃ w3, Hid (w3 = w2.alloc (.cells #[.int .i64 xk, .int .i64 xn, .string xt, .slice xa xl xc, .slice ya yl yc] 26)) := ⟨_, rfl⟩
  obtain ⟨gb, Hgb⟩ : ∃ gb, Hid (gb = w2.heap.size) := ⟨_, rfl⟩
  have hb3 : Below w2.heap.size w2 w3 := by rw [Hw3.out]; exact below_new _ _
  have HB3 : Hid (Below w.heap.size w w3 ∧ Blk w3 gb #[.int .i64 xk, .int .i64 xn, .string xt, .slice xa xl xc, .slice ya yl yc] 26 ∧ JAt w3 S v #[.int .i64 xk, .int .i64 xn, .string xt, .slice xa xl xc, .slice ya yl yc]) := by
    have h2 : Below w.heap.size w w2 := HB1.out.trans (hb2.mono HB1.out.size)
    refine ⟨h2.trans (hb3.mono h2.size), by rw [Hw3.out, Hgb.out]; exact Blk.new _ _ _, hj.below hb3⟩
  have HP3 := HP w3 (HV.out.1.stay HB3.out.1)
  clear hb2 hb3 hj hS HP HB1
  go_upto_region 4 with fail
  rw [← Hw3.out, ← Hgb.out]
  clear Hw3 Hgb
  go_wp2_with fail
  refine HP3.mono ?_
  clear HP3
  rintro e w4 ⟨hb4, ds, T, rfl, hj4, hT⟩
  obtain ⟨zk, zn, zt, za, zl, zc, ta, tl, tc, hds⟩ := JAt.cs hj4
  subst hds
  obtain ⟨w5, Hw5⟩ : ∃ w5, Hid (w5 = w4.alloc (.cells #[.int .i64 zk, .int .i64 zn, .string zt, .slice za zl zc, .slice ta tl tc] 26)) := ⟨_, rfl⟩
  obtain ⟨gc, Hgc⟩ : ∃ gc, Hid (gc = w4.heap.size) := ⟨_, rfl⟩
  have hb5 : Below w4.heap.size w4 w5 := by rw [Hw5.out]; exact below_new _ _
  have HB5 : Hid (Below w.heap.size w w5 ∧ Blk w5 gb #[.int .i64 xk, .int .i64 xn, .string xt, .slice xa xl xc, .slice ya yl yc] 26 ∧ Blk w5 gc #[.int .i64 zk, .int .i64 zn, .string zt, .slice za zl zc, .slice ta tl tc] 26) := by
    have h2 : Below w.heap.size w w4 := HB3.out.1.trans (hb4.mono HB3.out.1.size)
    refine ⟨h2.trans (hb5.mono h2.size), (HB3.out.2.1.below hb4).below hb5, by rw [Hw5.out, Hgc.out]; exact Blk.new _ _ _⟩
  have HM := specM v w5 T S _ _ HV.out.2 (hj4.below hb5) ((HB3.out.2.2.below hb4).below hb5)
  clear hb4 hb5 hj4 hT HB3
  go_upto_region 5 with fail
  rw [← Hw5.out, ← Hgc.out]
  clear Hw5 Hgc
  obtain ⟨x0, x1, x2, x3, x4, -⟩ := Blk.five HB5.out.2.1
  obtain ⟨y0, y1, y2, y3, y4, -⟩ := Blk.five HB5.out.2.2
  go_wp2_with fail
  refine HM.mono ?_
  clear HM
  rintro e w6 ⟨rfl, hb6⟩
  have HB6 : Hid (Below w.heap.size w w6) := HB5.out.1.trans (hb6.mono HB5.out.1.size)
  clear hb6 HB5 x0 x1 x2 x3 x4 y0 y1 y2 y3 y4
  go_wp2
  go_ret
  exact ⟨rfl, HB6.out⟩
end Go.Proofs.YtelhgjepjieocaaDoor
