/- Layer 18 (json): appendItems. -/
import Derived.Test.YtelhgjepjieocaaDoorJxAi
namespace Go.Proofs.YtelhgjepjieocaaDoor
open Go.RowKit Go.MapKept Go.Sort
set_option linter.unusedVariables false

mutual
/-- A value, printed behind l, till it is too long. -/
def valP : Js → List Nat → List Nat
  | .mk k n t ns its, l =>
    if k = 2 then l ++ (if n = 1 then [116, 114, 117, 101] else [102, 97, 108, 115, 101])
    else if k = 3 then l ++ numD n
    else if k = 4 then txtP (nmB t) l
    else if k = 5 then itsP false true ns its (l ++ [91]) ++ [93]
    else if k = 6 then itsP true true ns its (l ++ [123]) ++ [125]
    else l ++ [110, 117, 108, 108]
/-- Items, each with its name if they have names. -/
def itsP : Bool → Bool → List (List UInt8) → List Js → List Nat → List Nat
  | _, _, _, [], l => l
  | obj, first, ns, x :: xs, l =>
    if 65536 < l.length then l
    else itsP obj false ns.tail xs (valP x (if obj then txtP (nmB (ns.headD [])) (if first then l else l ++ [44]) ++ [58] else (if first then l else l ++ [44])))
end
theorem chrsP_len : ∀ (cs l : List Nat), (chrsP cs l).length ≤ max l.length 65542
  | [], l => by unfold chrsP; omega
  | c :: cs, l => by
    by_cases h : 65536 < l.length
    · rw [chrsP_long h]; omega
    · rw [chrsP_cons h]
      have h1 := chrsP_len cs (l ++ chrP c)
      have h2 := chrP_len c
      rw [List.length_append] at h1
      omega
theorem txtP_len (s : ByteArray) (l : List Nat) : (txtP s l).length ≤ max (l.length + 1) 65542 + 1 := by
  unfold txtP
  have h1 := chrsP_len (bytesN s 0) (l ++ [34])
  rw [List.length_append] at h1 ⊢
  simp only [List.length_cons, List.length_nil] at h1 ⊢
  omega
theorem numD_len (n : Int) (h : -9223372036854775808 ≤ n ∧ n ≤ 9223372036854775807) : (numD n).length ≤ 24 := by
  unfold numD
  rw [List.length_map]
  by_cases hneg : n < 0
  · obtain ⟨u, rfl⟩ : ∃ u : Nat, n = -(u : Int) := ⟨n.natAbs, by omega⟩
    rw [Lib.itoa_neg u (by omega), List.length_cons, Lib.decDigits_length]
    have := Lib.numDigits_eq u (by omega) (by omega)
    split at this <;> omega
  · obtain ⟨u, rfl⟩ : ∃ u : Nat, n = u := ⟨n.toNat, by omega⟩
    rw [Lib.itoa_nonneg, Lib.decDigits_length]
    by_cases h0 : u = 0
    · subst h0; rw [Lib.nDigits_small (by omega)]; omega
    · have := Lib.numDigits_eq u (by omega) (by omega)
      split at this <;> omega
mutual
theorem valP_len : ∀ (v : Js) (d : Nat) (l : List Nat), soundJ v d = true → Rng v → d ≤ 16 → l.length ≤ 70000 → (valP v l).length ≤ 70100 + 100 * (17 - d)
  | .mk k n t ns its, d, l, hs, hr, hd, hl => by
    unfold valP
    unfold soundJ at hs
    unfold Rng at hr
    by_cases k2 : k = 2
    · simp only [k2, if_true]
      split <;> simp <;> omega
    by_cases k3 : k = 3
    · have := numD_len n hr.1
      simp only [k3]
      simp
      omega
    by_cases k4 : k = 4
    · have := txtP_len (nmB t) l
      simp only [k4]
      simp
      omega
    by_cases k5 : k = 5
    · simp only [k5] at hs
      simp at hs
      have := itsP_len its false true ns d (l ++ [91]) hs.2.2 hr.2.2.2.2.2 hs.2.1 (by simp; omega)
      simp only [k5]
      simp
      omega
    by_cases k6 : k = 6
    · simp only [k6] at hs
      simp at hs
      have := itsP_len its true true ns d (l ++ [123]) hs.1.2.2 hr.2.2.2.2.2 hs.1.2.1 (by simp; omega)
      simp only [k6]
      simp
      omega
    simp [k2, k3, k4, k5, k6]
    omega
theorem itsP_len : ∀ (its : List Js) (obj first : Bool) (ns : List (List UInt8)) (d : Nat) (l : List Nat), allS its (d + 1) = true → Rngs its → d < 16 → l.length ≤ 70100 + 100 * (16 - d) → (itsP obj first ns its l).length ≤ 70100 + 100 * (16 - d)
  | [], obj, first, ns, d, l, hs, hr, hd, hl => by unfold itsP; exact hl
  | x :: xs, obj, first, ns, d, l, hs, hr, hd, hl => by
    unfold itsP
    unfold allS at hs
    unfold Rngs at hr
    rw [Bool.and_eq_true] at hs
    split
    · exact hl
    · refine itsP_len xs obj false ns.tail d _ hs.2 hr.2 hd ?_
      have h0 : (if first then l else l ++ [44]).length ≤ 65537 := by
          split
          · omega
          · rw [List.length_append, List.length_singleton]; omega
      have h1 := txtP_len (nmB (ns.headD [])) (if first then l else l ++ [44])
      refine Nat.le_trans (valP_len x (d + 1) _ hs.1 hr.1 (by omega) ?_) (by omega)
      split
      · rw [List.length_append, List.length_singleton]; omega
      · omega
end
abbrev TabB (B : Nat) (w : World) : Prop := Lib.TabBelow Tryd.prog B w "internal/strconv.uint64pow10" .u64 Lib.pow10Tab
def SpecP (v : Js) : Prop := ∀ (d : Nat) (w : World) (S : Nat → Prop) (cs : Array Value) (B : Nat) (vt : Value) (l : List Nat), d ≤ 16 → soundJ v d = true → Rng v → JAt w S v cs → (∀ k, S k → k < B) → Ow w B 5 vt (nbs l) → l.length ≤ 70000 → B ≤ w.heap.size → TabB B w →
  Calls Tryd.prog 31 #[vt, .agg cs] w (TxC w B vt (nbs (valP v l)))
/-- Values lie where the text does not. -/
theorem Grew.frm {w w' : World} {v x : Value} (h : Grew w w' v x) : Frm (fun k => v.ownBlock = some k) w w' := ⟨h.grown.os, h.grown.tape, h.grown.output, h.grown.size, fun k hk hn => h.grown.block k hk (fun e => hn e.symm)⟩
theorem Ow.apart {w : World} {B : Nat} {e : TypeId} {v : Value} {l : List Value} (h : Ow w B e v l) {S : Nat → Prop} (hs : ∀ k, S k → k < B) : ∀ k, S k → ¬ v.ownBlock = some k := fun k hk e => by have := (World.ownsRow.lt h k e).1; have := hs k hk; omega
theorem Ow.typ {w : World} {B g : Nat} {v : Value} {l : List Value} {cs : Array Value} (h : Ow w B 5 v l) (hb : Blk w g cs 26) : ∀ q, v.ownBlock = some q → q ≠ g := fun q e he => by
  rcases h.2 with ⟨rfl, _⟩ | ⟨q', cap, cur, rfl, _, hg, _⟩
  · simp [Value.ownBlock] at e
  · simp [Value.ownBlock] at e
    subst e he
    unfold Blk at hb
    rw [hg] at hb
    simp at hb
theorem Blk.grewJ {w w' : World} {B g : Nat} {v v' : Value} {l : List Value} {cs : Array Value} (hb : Blk w g cs 26) (h : Ow w B 5 v l) (hg : Grew w w' v v') : Blk w' g cs 26 :=
  (hg.grown.block g hb.lt (fun e => h.typ hb g e.symm rfl)).trans hb
theorem allS_mem : ∀ (l : List Js) (d : Nat), allS l d = true → ∀ x ∈ l, soundJ x d = true
  | [], d, h, x, hx => by cases hx
  | y :: ys, d, h, x, hx => by
    unfold allS at h
    rw [Bool.and_eq_true] at h
    rcases List.mem_cons.1 hx with rfl | hx
    · exact h.1
    · exact allS_mem ys d h.2 x hx
theorem itsP_step {obj first : Bool} {ns : List (List UInt8)} {its : List Js} {L : List Nat} {k : Nat} (hk : k < its.length) (hL : ¬ 65536 < L.length) :
    itsP obj first (ns.drop k) (its.drop k) L = itsP obj false (ns.drop (k + 1)) (its.drop (k + 1)) (valP its[k] (if obj then txtP (nmB ((ns.drop k).headD [])) (if first then L else L ++ [44]) ++ [58] else (if first then L else L ++ [44]))) := by
  rw [List.drop_eq_getElem_cons hk]
  conv => lhs; unfold itsP
  rw [if_neg hL, List.tail_drop]
theorem itsP_long {obj first : Bool} {ns : List (List UInt8)} {its : List Js} {L : List Nat} (hL : 65536 < L.length) : itsP obj first ns its L = L := by
  cases its with
  | nil => unfold itsP; rfl
  | cons x xs => unfold itsP; rw [if_pos hL]
/-- The state of the round of items: L is the text. -/
structure ItI (w : World) (B g : Nat) (vt : Value) (cells : Array Value) (x : Value) (L : List Nat) (wr : World) : Prop where
  own : Ow wr B 5 x (nbs L)
  grew : Grew w wr vt x
  blk : Blk wr g cells 26
  base : B ≤ wr.heap.size
theorem ItI.go {w wr w' : World} {B g : Nat} {vt x x' : Value} {cells : Array Value} {L L' : List Nat} (h : ItI w B g vt cells x L wr) (ho : Ow w' B 5 x' (nbs L')) (hg : Grew wr w' x x') : ItI w B g vt cells x' L' w' :=
  ⟨ho, h.grew.trans hg, h.blk.grewJ h.own hg, Nat.le_trans h.base hg.size⟩
theorem ItI.below {w wr w' : World} {B g : Nat} {vt x : Value} {cells : Array Value} {L : List Nat} (h : ItI w B g vt cells x L wr) (hb : Below wr.heap.size wr w') : ItI w B g vt cells x L w' :=
  ⟨h.own.below hb, h.grew.below hb, h.blk.below hb, Nat.le_trans h.base hb.size⟩

set_option maxRecDepth 100000 in
set_option maxHeartbeats 4000000 in
theorem appendItems_calls (kd n : Int) (t : List UInt8) (ns : List (List UInt8)) (its : List Js) (IH : ∀ x ∈ its, SpecP x) (d nl nc il ic : Nat) (na ia : Option Addr) (w : World) (S : Nat → Prop) (B : Nat) (vt : Value) (l : List Nat)
    (hd : d < 16) (hnl : ns.length = nl) (hil : its.length = il) (hnm : nl ≤ 140737488355328) (him : il ≤ 140737488355328) (hal : allS its (d + 1) = true) (hr : Rngs its) (hobj : kd = 6 → nl = il) (htx : ∀ s ∈ ns, s.length ≤ 140737488355328)
    (hv : VAt w na (ns.map strV)) (hnS : ∀ a, na = some a → ns ≠ [] → S a.block) (hi : ItAt w S ia 0 its) (hs : ∀ a, ia = some a → its ≠ [] → S a.block) (hSB : ∀ k, S k → k < B) (ho : Ow w B 5 vt (nbs l)) (hl : l.length ≤ 70001) (hB : B ≤ w.heap.size) (htab : TabB B w) :
    Calls Tryd.prog 51 #[vt, .agg (jC kd n (nmB t) (.slice na nl nc) (.slice ia il ic))] w (TxC w B vt (nbs (itsP (kd == 6) true ns its l))) := by
  obtain ⟨Q, HQ⟩ : ∃ Q : List Nat, Hid (Q = itsP (kd == 6) true ns its l) := ⟨itsP (kd == 6) true ns its l, (Eq.refl _ : itsP (kd == 6) true ns its l = _)⟩
  rw [← HQ.out]
  have HQ2 : Hid (itsP (kd == 6) (decide (0 = 0)) (ns.drop 0) (its.drop 0) l = Q) := by rw [Hid, List.drop_zero, List.drop_zero, HQ.out]; rfl
  obtain ⟨tb, Htb⟩ : ∃ tb : ByteArray, Hid (tb = nmB t) := ⟨nmB t, (Eq.refl _ : nmB t = _)⟩
  rw [← Htb.out]
  obtain ⟨w1, Hw1⟩ : ∃ w1, Hid (w1 = w.alloc (.cells #[.int .i64 kd, .int .i64 n, .string tb, .slice na nl nc, .slice ia il ic] 26)) := ⟨_, rfl⟩
  obtain ⟨g, Hg⟩ : ∃ g, Hid (g = w.heap.size) := ⟨_, rfl⟩
  have HB1 : Hid (Blk w1 g #[.int .i64 kd, .int .i64 n, .string tb, .slice na nl nc, .slice ia il ic] 26) := by rw [Hid, Hw1.out, Hg.out]; exact Blk.new _ _ _
  have HF1 : Hid (Below w.heap.size w w1) := by rw [Hid, Hw1.out]; exact below_new _ _
  have HI : Hid (ItI w B g vt #[.int .i64 kd, .int .i64 n, .string tb, .slice na nl nc, .slice ia il ic] vt l w1 ∧ l.length ≤ 72000) := ⟨⟨ho.below HF1.out, (Grew.refl _ _).below HF1.out, HB1.out, Nat.le_trans hB HF1.out.size⟩, by omega⟩
  have HIH : Hid ((∀ x ∈ its, SpecP x) ∧ Rngs its ∧ its.length = il ∧ allS its (d + 1) = true) := ⟨IH, hr, hil, hal⟩
  have HII : Hid (ItAt w S ia 0 its ∧ (∀ a, ia = some a → its ≠ [] → S a.block) ∧ (∀ k, S k → k < B) ∧ Ow w B 5 vt (nbs l) ∧ B ≤ w.heap.size ∧ TabB B w) := ⟨hi, hs, hSB, ho, hB, htab⟩
  have HNN : Hid (VAt w na (ns.map strV) ∧ (∀ a, na = some a → ns ≠ [] → S a.block) ∧ ns.length = nl ∧ (kd = 6 → nl = il) ∧ ∀ s ∈ ns, s.length ≤ 140737488355328) := ⟨hv, hnS, hnl, hobj, htx⟩
  obtain ⟨x0, x1, x2, x3, x4, -⟩ := Blk.five HB1.out
  clear IH hr hil hal hi hs hSB ho hB htab hv hnS hnl hobj htx hl HQ Htb HB1
  unfold jC
  go_enter Tryd.func51, Tryd.ntmps51
  go_upto_region 1 with fail
  rw [← Hw1.out, ← Hg.out]
  clear Hw1 Hg
  go_wp2
  clear x0 x1 x2 x3 x4
  go_loopw [0, 5, 6, 10] (fun x y z i wr => ∃ (k : Nat) (L : List Nat), k ≤ il ∧ i = .int .i64 (k : Int) ∧ Hid (ItI w B g vt #[.int .i64 kd, .int .i64 n, .string tb, .slice na nl nc, .slice ia il ic] x L wr ∧ L.length ≤ 72000 ∧ itsP (kd == 6) (decide (k = 0)) (ns.drop k) (its.drop k) L = Q)) (fun _ _ _ i _ => il - (intOf i).toNat)
  case atStart => exact ⟨0, l, Nat.zero_le _, rfl, HI.out.1, HI.out.2, HQ2.out⟩
  case round =>
    clear HI HQ2
    obtain ⟨k, L, hk, rfl, HI⟩ := hrel
    by_cases hlt : k < il
    · have hkl : k < its.length := by rw [HIH.out.2.2.1]; exact hlt
      have HFw : Hid (Frm (fun q => vt.ownBlock = some q) w wr) := HI.out.1.grew.frm
      have HAp : Hid (∀ q, S q → ¬ vt.ownBlock = some q) := HII.out.2.2.2.1.apart HII.out.2.2.1
      obtain ⟨b, off, cs, rfl, h5, hcell, hj⟩ := ItAt.get its 0 k hkl (ItAt.frm HFw.out HAp.out its ia 0 HII.out.2.1 HII.out.1)
      obtain ⟨xk, xn, xt, xa, xl, xc, ya, yl, yc, hcs⟩ := JAt.cs hj
      subst hcs
      simp only [Nat.zero_add] at hcell
      have q0 := hcell 0 _ rfl
      have q1 := hcell 1 _ rfl
      have q2 := hcell 2 _ rfl
      have q3 := hcell 3 _ rfl
      have q4 := hcell 4 _ rfl
      simp only [Nat.add_zero] at q0
      obtain ⟨w2, Hw2⟩ : ∃ w2, Hid (w2 = wr.alloc (.cells #[.int .i64 xk, .int .i64 xn, .string xt, .slice xa xl xc, .slice ya yl yc] 26)) := ⟨_, rfl⟩
      obtain ⟨gi, Hgi⟩ : ∃ gi, Hid (gi = wr.heap.size) := ⟨_, rfl⟩
      have hb1 : Below wr.heap.size wr w2 := by rw [Hw2.out]; exact below_new _ _
      have HBi : Hid (Blk w2 gi #[.int .i64 xk, .int .i64 xn, .string xt, .slice xa xl xc, .slice ya yl yc] 26) := by rw [Hid, Hw2.out, Hgi.out]; exact Blk.new _ _ _
      have HJ : Hid (JAt w2 S (its[k]'hkl) #[.int .i64 xk, .int .i64 xn, .string xt, .slice xa xl xc, .slice ya yl yc]) := hj.below hb1
      have HI2 : Hid (ItI w B g vt _ _ L w2) := HI.out.1.below hb1
      obtain ⟨a2, c2, hx2, -, -, -⟩ := HI.out.1.own.shape
      obtain ⟨n2, Hn2⟩ : ∃ n2, Hid (n2 = L.length) := ⟨L.length, (Eq.refl _ : L.length = _)⟩
      rw [nbs_length, ← Hn2.out] at hx2
      subst hx2
      have HL : Hid (L.length ≤ 72000 ∧ itsP (kd == 6) (decide (k = 0)) (ns.drop k) (its.drop k) L = Q) := HI.out.2
      have HT := tooLong_calls n2 c2 a2
      clear HI hcell hj hb1
      go_upto_region 4 with fail
      rw [← Hw2.out, ← Hgi.out]
      clear Hw2 Hgi q0 q1 q2 q3 q4
      by_cases h65 : (65536 : Int) < (n2 : Int)
      · rw [show decide ((65536 : Int) < (n2 : Int)) = true from decide_eq_true h65] at HT
        have HR : Hid (Q = L) := by rw [Hid, ← HL.out.2, itsP_long (by rw [← Hn2.out]; omega)]
        clear h65
        go_wp2_with fail
        refine (HT _).mono ?_
        rintro e w3 ⟨rfl, rfl⟩
        go_wp2
        go_ret
        refine ⟨_, rfl, ?_, HI2.out.grew⟩
        rw [HR.out]
        exact HI2.out.own
      · rw [show decide ((65536 : Int) < (n2 : Int)) = false from decide_eq_false h65] at HT
        have HR : Hid (itsP (kd == 6) false (ns.drop (k + 1)) (its.drop (k + 1)) (valP (its[k]'hkl) (if kd == 6 then txtP (nmB ((ns.drop k).headD [])) (if decide (k = 0) then L else L ++ [44]) ++ [58] else (if decide (k = 0) then L else L ++ [44]))) = Q ∧ L.length ≤ 65536) := by
          have h := HL.out.2
          rw [itsP_step hkl (by rw [← Hn2.out]; omega)] at h
          exact ⟨h, by rw [← Hn2.out]; omega⟩
        clear h65 HL
        go_wp2_with fail
        refine (HT _).mono ?_
        clear HT
        rintro e w3 ⟨rfl, rfl⟩
        obtain ⟨L1, HL1⟩ : ∃ L1 : List Nat, Hid (L1 = (if decide (k = 0) then L else L ++ [44]) ∧ L1.length ≤ 65537) := ⟨_, rfl, by have := HR.out.2; split <;> simp <;> omega⟩
        rw [← HL1.out.1] at HR
        go_upto_if 19 with fail
        go_cut [0] from 18 to 22 (fun s0 wx => ∃ a3 n3 c3, s0 = .slice a3 n3 c3 ∧ Hid (n3 = L1.length) ∧ Hid (ItI w B g vt #[.int .i64 kd, .int .i64 n, .string tb, .slice na nl nc, .slice (some ⟨b, off, none⟩) il ic] s0 L1 wx ∧ Grew w3 wx (.slice a2 n2 c2) s0))
        case first =>
          by_cases hk0 : k = 0
          · have HE : Hid (L1 = L) := by rw [Hid, HL1.out.1, if_pos (decide_eq_true hk0)]
            have hk1 : ¬ ((0 : Int) < (k : Int)) := by omega
            subst hk0
            go_wp2
            go_meet
            exact ⟨_, _, _, rfl, by rw [HE.out]; exact Hn2, by rw [HE.out]; exact ⟨HI2.out, Grew.refl _ _⟩⟩
          · have HE : Hid (L1 = L ++ [44]) := by rw [Hid, HL1.out.1, if_neg (by simpa using hk0)]
            have hk1 : (0 : Int) < (k : Int) := by omega
            go_wp2_with (at_builtin; go_must (refine append_lit w3 rfl (.tmp 20) (.tmp 21) rfl B _ L rfl [44] 1 _ rfl rfl rfl HI2.out.own (by have := HR.out.2; omega) HI2.out.base ?_))
            intro v4 w4 ho4 hg4
            have HX := HI2.out.go ho4 hg4
            obtain ⟨a3, c3, rfl, -, -, -⟩ := ho4.shape
            go_wp2
            go_meet
            exact ⟨_, _, _, rfl, by rw [HE.out]; exact nbs_length _, by rw [HE.out]; exact ⟨HX, hg4⟩⟩
        case rest =>
          obtain ⟨a3, n3, c3, rfl, Hn3, HI3⟩ := hcut
          generalize wc = w5 at HI3 ⊢
          clear wc
          have HS3 : Hid (JAt w5 S (its[k]'hkl) #[.int .i64 xk, .int .i64 xn, .string xt, .slice xa xl xc, .slice ya yl yc] ∧ Blk w5 gi #[.int .i64 xk, .int .i64 xn, .string xt, .slice xa xl xc, .slice ya yl yc] 26) :=
            ⟨JAt.frm HI3.out.2.frm (HI2.out.own.apart HII.out.2.2.1) _ _ HJ.out, HBi.out.grewJ HI2.out.own HI3.out.2⟩
          clear HI2 HJ HBi
          obtain ⟨x0, x1, x2, x3, x4, -⟩ := Blk.five HI3.out.1.blk
          obtain ⟨L2, HL2⟩ : ∃ L2 : List Nat, Hid (L2 = (if kd == 6 then txtP (nmB ((ns.drop k).headD [])) L1 ++ [58] else L1) ∧ L2.length ≤ 70000) := by
            refine ⟨_, rfl, ?_⟩
            have h1 := HL1.out.2
            have h2 := txtP_len (nmB ((ns.drop k).headD [])) L1
            split
            · rw [List.length_append, List.length_singleton]; omega
            · omega
          rw [← HL2.out.1] at HR
          go_upto_if 25 with fail
          go_cut [0] from 23 to 34 (fun s0 wx => ∃ a4 n4 c4, s0 = .slice a4 n4 c4 ∧ Hid (n4 = L2.length) ∧ Hid (ItI w B g vt #[.int .i64 kd, .int .i64 n, .string tb, .slice na nl nc, .slice (some ⟨b, off, none⟩) il ic] s0 L2 wx ∧ Grew w5 wx (.slice a3 n3 c3) s0))
          case first =>
            by_cases hk6 : kd = 6
            · have HE : Hid (L2 = txtP (nmB ((ns.drop k).headD [])) L1 ++ [58]) := by rw [Hid, HL2.out.1, if_pos (by simpa using hk6)]
              subst hk6
              have hnk : k < ns.length := by rw [HNN.out.2.2.1, HNN.out.2.2.2.1 rfl]; exact hlt
              have hkn : k < nl := by rw [← HNN.out.2.2.1]; exact hnk
              obtain ⟨bn, on, rfl, hnc⟩ := HNN.out.1 k (by rw [List.length_map]; exact hnk)
              obtain ⟨nm, Hnm⟩ : ∃ nm : List UInt8, Hid (nm = (ns.drop k).headD [] ∧ nm.length ≤ 140737488355328) := ⟨_, rfl, by rw [List.drop_eq_getElem_cons hnk]; exact HNN.out.2.2.2.2 _ (List.getElem_mem hnk)⟩
              rw [List.getElem_map, show ns[k]'hnk = nm by rw [Hnm.out.1, List.drop_eq_getElem_cons hnk]; rfl] at hnc
              have hnc2 := cell_frm HI3.out.1.grew.frm hnc (HAp.out bn (HNN.out.2.1 _ rfl (by rintro rfl; exact absurd hnk (Nat.not_lt_zero _))))
              rw [← Hnm.out.1] at HE
              obtain ⟨s, Hs⟩ : ∃ s : ByteArray, Hid (s = nmB nm ∧ s.size ≤ 140737488355328) := ⟨_, rfl, by have := Hnm.out.2; simpa [nmB, ByteArray.size] using this⟩
              unfold strV at hnc2
              rw [← Hs.out.1] at hnc2 HE
              have HA := appendText_calls s (by have := Hs.out.2; omega) _ B L1 w5 (by have := HL1.out.2; omega) HI3.out.1.own HI3.out.1.base
              clear hnc HL2
              go_wp2_with fail
              refine HA.mono ?_
              clear HA
              rintro e w6 ⟨v6, rfl, ho6, hg6⟩
              have HX6 : Hid (ItI w B g vt _ v6 (txtP s L1) w6 ∧ Grew w5 w6 (.slice a3 n3 c3) v6) := ⟨HI3.out.1.go ho6 hg6, hg6⟩
              clear ho6 hg6 hnc2 x0 x1 x2 x3 x4
              go_wp2_with (at_builtin; go_must (refine append_lit w6 rfl (.tmp 32) (.tmp 33) rfl B _ (txtP s L1) rfl [58] 1 _ rfl rfl rfl HX6.out.1.own (by have := HL1.out.2; have := txtP_len s L1; omega) HX6.out.1.base ?_))
              intro v7 w7 ho7 hg7
              have HX7 := HX6.out.1.go ho7 hg7
              have hgg := HX6.out.2.trans hg7
              obtain ⟨a4, c4, rfl, -, -, -⟩ := ho7.shape
              clear ho7 hg7 HX6
              go_wp2
              go_meet
              exact ⟨_, _, _, rfl, by rw [HE.out]; exact nbs_length _, by rw [HE.out]; exact ⟨HX7, hgg⟩⟩
            · have HE : Hid (L2 = L1) := by rw [Hid, HL2.out.1, if_neg (by simpa using hk6)]
              have hk7 : (kd == 6) = false := by simpa using hk6
              go_wp2
              go_meet
              exact ⟨_, _, _, rfl, by rw [HE.out]; exact Hn3, by rw [HE.out]; exact ⟨HI3.out.1, Grew.refl _ _⟩⟩
          case rest =>
            obtain ⟨a4, n4, c4, rfl, Hn4, HI4⟩ := hcut
            have HS4 : Hid (JAt wc S (its[k]'hkl) #[.int .i64 xk, .int .i64 xn, .string xt, .slice xa xl xc, .slice ya yl yc] ∧ Blk wc gi #[.int .i64 xk, .int .i64 xn, .string xt, .slice xa xl xc, .slice ya yl yc] 26) :=
              ⟨JAt.frm HI4.out.2.frm (HI3.out.1.own.apart HII.out.2.2.1) _ _ HS3.out.1, HS3.out.2.grewJ HI3.out.1.own HI4.out.2⟩
            obtain ⟨y0, y1, y2, y3, y4, -⟩ := Blk.five HS4.out.2
            have hm := List.getElem_mem hkl
            have HC := HIH.out.1 _ hm (d + 1) wc S _ B (.slice a4 n4 c4) L2 (by omega) (allS_mem its (d + 1) HIH.out.2.2.2 _ hm) (Rngs.mem HIH.out.2.1 _ hm) HS4.out.1 HII.out.2.2.1 HI4.out.1.own HL2.out.2 HI4.out.1.base (HII.out.2.2.2.2.2.on (HI4.out.1.grew.toBelow HII.out.2.2.2.2.1 (fun q hq => (World.ownsRow.lt HII.out.2.2.2.1 q hq).1)))
            have HZ : Hid ((valP (its[k]'hkl) L2).length ≤ 72000) := by
              have := valP_len (its[k]'hkl) (d + 1) L2 (allS_mem its (d + 1) HIH.out.2.2.2 _ hm) (Rngs.mem HIH.out.2.1 _ hm) (by omega) HL2.out.2
              rw [Hid]; omega
            go_wp2_with fail
            refine HC.mono ?_
            clear HC
            rintro e w8 ⟨v8, rfl, ho8, hg8⟩
            have HN : Hid (ItI w B g vt #[.int .i64 kd, .int .i64 n, .string tb, .slice na nl nc, .slice (some ⟨b, off, none⟩) il ic] v8 (valP (its[k]'hkl) L2) w8) := HI4.out.1.go ho8 hg8
            have HR2 := HR.out.1
            clear ho8 hg8 HI4 HS4 y0 y1 y2 y3 y4 x0 x1 x2 x3 x4 hm HI3 HS3 HL2 HL1 Hn4 Hn3 Hn2
            go_wp2
            go_roundw
            case rel => exact ⟨k + 1, _, by omega, by go_num, HN.out, HZ.out, by rw [decide_eq_false (by omega)]; exact HR2⟩
            case measure => simp [intOf]; omega
    · have HN : Hid (Q = L) := by
        rw [Hid, ← HI.out.2.2, List.drop_of_length_le (by rw [HIH.out.2.2.1]; omega) (l := its)]
        unfold itsP; rfl
      go_wp2
      go_ret
      refine ⟨_, rfl, ?_, HI.out.1.grew⟩
      rw [HN.out]
      exact HI.out.1.own
end Go.Proofs.YtelhgjepjieocaaDoor
