import Derived.Test.YtelhgjepjieocaaDoorScBase
/- Layer 18 (json): the rest of a text; the reader in memory; next, take, isDigit. -/
namespace Go.Proofs.YtelhgjepjieocaaDoor
open Go.RowKit
set_option linter.unusedVariables false

/-- What of a text stands from place n on. -/
def tl (s : ByteArray) (n : Nat) : List UInt8 := s.data.toList.drop n
theorem tl_cons {s : ByteArray} {n : Nat} (h : n < s.size) : tl s n = s[n] :: tl s (n + 1) := by
  have h' : n < s.data.toList.length := by rw [Array.length_toList]; exact h
  unfold tl
  rw [List.drop_eq_getElem_cons h']
  rfl
theorem tl_nil {s : ByteArray} {n : Nat} (h : s.size ≤ n) : tl s n = [] := List.drop_of_length_le (by rw [Array.length_toList]; exact h)
theorem tl_length (s : ByteArray) (n : Nat) : (tl s n).length = s.size - n := by
  unfold tl
  rw [List.length_drop, Array.length_toList]; rfl
/-- The byte ahead. -/
def hdN : List UInt8 → Option Nat
  | [] => none
  | x :: _ => some x.toNat
theorem hdN_lt {l : List UInt8} {c : Nat} (h : hdN l = some c) : c < 256 := by
  cases l with
  | nil => cases h
  | cons x l => cases h; exact x.toNat_lt
/-- The reader at block rb: l is what comes. -/
structure Rd (w : World) (rb : Nat) (s : ByteArray) (n : Nat) (l : List UInt8) : Prop where
  blk : w.heap[rb]? = some (.cells #[.string s, .int .i64 (n : Int)] 61)
  le : n ≤ s.size
  suf : tl s n = l
  sz : s.size ≤ 1048576
section
variable {w w' : World} {rb n : Nat} {s : ByteArray} {l : List UInt8} {S : Nat → Prop}
theorem Rd.frm (h : Rd w rb s n l) (hf : Frm S w w') (hn : ¬ S rb) : Rd w' rb s n l := ⟨(hf.block rb (lt_of_heapT h.blk) hn).trans h.blk, h.le, h.suf, h.sz⟩
theorem Rd.below (h : Rd w rb s n l) (hb : Below w.heap.size w w') : Rd w' rb s n l := h.frm (Frm.ofBelow hb (fun _ => False)) (fun h => h)
theorem Rd.len (h : Rd w rb s n l) : n + l.length = s.size := by
  rw [← h.suf, tl_length]
  have := h.le
  omega
theorem Rd.cells (h : Rd w rb s n l) : w.cell? ⟨rb, 0, none⟩ = some (.string s) ∧ w.cell? ⟨rb, 1, none⟩ = some (.int .i64 (n : Int)) ∧ w.frozen? ⟨rb, 1, none⟩ = false := by
  refine ⟨?_, ?_, frozen_blkT h.blk⟩
  · rw [cell_blkT h.blk]; rfl
  · rw [cell_blkT h.blk]; rfl
theorem Rd.head (h : Rd w rb s n l) (hn : n < s.size) : hdN l = some s[n].toNat := by rw [← h.suf, tl_cons hn]; rfl
theorem Rd.nil (h : Rd w rb s n l) (hn : ¬ n < s.size) : hdN l = none := by rw [← h.suf, tl_nil (by omega)]; rfl
theorem Rd.tail (h : Rd w rb s n l) (hn : n < s.size) : tl s (n + 1) = l.tail := by rw [← h.suf, tl_cons hn]; rfl
theorem Rd.pos (h : Rd w rb s n l) {c : Nat} (hc : hdN l = some c) : n < s.size := by
  rcases Nat.lt_or_ge n s.size with h1 | h1
  · exact h1
  · have := h.nil (by omega)
    rw [this] at hc; cases hc
/-- The place is moved. -/
theorem Rd.set (h : Rd w rb s n l) {m : Nat} (hm : m ≤ s.size) : Rd (w.setCell ⟨rb, 1, none⟩ (.int .i64 (m : Int))) rb s m (tl s m) := by
  refine ⟨?_, hm, rfl, h.sz⟩
  rw [heap_setCell_same w rb 1 _ _ _ h.blk]
  simp
end
/-- Behind a step of the reader nothing but it was written, and l comes. -/
def RdP (w : World) (rb : Nat) (s : ByteArray) (l : List UInt8) (w' : World) : Prop := (∃ n, Rd w' rb s n l) ∧ Frm (fun k => k = rb) w w'
theorem RdP.trans {a b c : World} {rb : Nat} {s : ByteArray} {l m : List UInt8} (h : RdP a rb s l b) (k : RdP b rb s m c) : RdP a rb s m c := ⟨k.1, h.2.trans k.2⟩
theorem frm_set (w : World) (rb i : Nat) (v : Value) : Frm (fun k => k = rb) w (w.setCell ⟨rb, i, none⟩ v) := (Frm.refl (fun k => k = rb) w).setCell ⟨rb, i, none⟩ v (.inl rfl)
theorem drewN_heap (w : World) (n : Nat) : (w.drewN n).heap = w.heap := by
  induction n with
  | zero => rfl
  | succ n ih => exact ih

set_option maxRecDepth 100000 in
set_option maxHeartbeats 1000000 in
theorem next_calls (w : World) (rb n : Nat) (s : ByteArray) (l : List UInt8) (h : Rd w rb s n l) :
    Calls Tryd.prog 57 #[.pointer (some ⟨rb, 0, none⟩)] w fun e w' => e = .returned (.int .u8 (((hdN l).getD 0 : Nat) : Int)) ∧ ∃ m, w' = w.drewN m := by
  obtain ⟨c0, c1, -⟩ := h.cells
  have hsz := h.sz
  by_cases hn : n < s.size
  · have HD : Hid ((hdN l).getD 0 = s[n].toNat) := by rw [Hid, h.head hn]; rfl
    clear h
    go_enter Tryd.func57, Tryd.ntmps57
    go_wp2_with fail
    go_quiet (fail)
    go_wp2_with fail
    go_quiet (fail)
    go_wp2
    go_ret
    exact ⟨by rw [HD.out]; rfl, _, World.drewN_drewN _ _ _⟩
  · have HD : Hid ((hdN l).getD 0 = 0) := by rw [Hid, h.nil hn]; rfl
    clear h
    go_enter Tryd.func57, Tryd.ntmps57
    go_wp2_with fail
    go_quiet (fail)
    go_wp2
    go_ret
    exact ⟨by rw [HD.out]; rfl, _, rfl⟩

/-- What is left behind a byte that was asked for. -/
def tkL (l : List UInt8) (c : Nat) : List UInt8 := if hdN l = some c then l.tail else l
theorem tkL_yes {l : List UInt8} {c : Nat} (h : hdN l = some c) : tkL l c = l.tail := if_pos h
theorem tkL_no {l : List UInt8} {c : Nat} (h : ¬ hdN l = some c) : tkL l c = l := if_neg h
theorem rdp_draws {w : World} {rb n m : Nat} {s : ByteArray} {l : List UInt8} (h : Rd w rb s n l) : RdP w rb s l (w.drewN m) := ⟨⟨n, h.below (below_drawsT w m)⟩, Frm.ofDraws _ w m⟩
theorem rdp_set {w w0 : World} {rb n m k : Nat} {s : ByteArray} {l : List UInt8} (h : Rd w rb s n l) (hm : m ≤ s.size) : RdP w rb s (tl s m) ((w.drewN k).setCell ⟨rb, 1, none⟩ (.int .i64 (m : Int))) :=
  ⟨⟨m, (h.below (below_drawsT w k)).set hm⟩, (Frm.ofDraws _ w k).setCell ⟨rb, 1, none⟩ _ (.inl rfl)⟩
set_option maxRecDepth 100000 in
set_option maxHeartbeats 1000000 in
theorem take_calls (w : World) (rb n : Nat) (s : ByteArray) (l : List UInt8) (ci : Int) (c : Nat) (h : Rd w rb s n l) (hc : ci = (c : Int)) :
    Calls Tryd.prog 56 #[.pointer (some ⟨rb, 0, none⟩), .int .u8 ci] w fun e w' => e = .returned (.bool (decide (hdN l = some c))) ∧ RdP w rb s (tkL l c) w' := by
  subst hc
  obtain ⟨c0, c1, f1⟩ := h.cells
  have hsz := h.sz
  have HR : Hid (Rd w rb s n l) := h
  by_cases hn : n < s.size
  · have hx : hdN l = some s[n].toNat := h.head hn
    have ht : tl s (n + 1) = l.tail := h.tail hn
    by_cases hb : s[n].toNat = c
    · have HB : Hid (decide (hdN l = some c) = true) := by rw [Hid, hx, hb]; simp
      have HZ : Hid (∀ k, RdP w rb s (tkL l c) ((w.drewN k).setCell ⟨rb, 1, none⟩ (.int .i64 ((n + 1 : Nat) : Int)))) := fun k => by
        have := rdp_set (w0 := w) (k := k) h (show n + 1 ≤ s.size by omega)
        rw [ht] at this
        rw [tkL_yes (by rw [hx, hb])]
        exact this
      have hq : ((s[n].toNat : Int) == (c : Int)) = true := by rw [hb]; simp
      clear h hx ht HR
      go_enter Tryd.func56, Tryd.ntmps56
      go_wp2_with fail
      go_quiet (fail)
      go_wp2
      go_ret
      exact ⟨by rw [HB.out]; rfl, HZ.out _⟩
    · have HB : Hid (decide (hdN l = some c) = false) := by rw [Hid, hx]; simpa using hb
      have hq : ((s[n].toNat : Int) == (c : Int)) = false := by simp; omega
      have HZ : Hid (tkL l c = l) := tkL_no (by rw [hx]; simpa using hb)
      clear h hx ht
      go_enter Tryd.func56, Tryd.ntmps56
      go_wp2_with fail
      go_quiet (fail)
      go_wp2
      go_ret
      exact ⟨by rw [HB.out]; rfl, by rw [HZ.out]; exact rdp_draws HR.out⟩
  · have hx : hdN l = none := h.nil hn
    have HB : Hid (decide (hdN l = some c) = false) := by rw [Hid, hx]; rfl
    have HZ : Hid (tkL l c = l) := tkL_no (by rw [hx]; simp)
    clear h hx
    go_enter Tryd.func56, Tryd.ntmps56
    go_wp2_with fail
    go_quiet (fail)
    go_wp2
    go_ret
    exact ⟨by rw [HB.out]; rfl, by rw [HZ.out]; exact rdp_draws HR.out⟩
/-- A decimal digit? -/
def dgN (c : Nat) : Bool := decide (48 ≤ c) && decide (c ≤ 57)
theorem isDigit_calls (w : World) (c : Nat) : Calls Tryd.prog 60 #[.int .u8 (c : Int)] w fun e w' => e = .returned (.bool (dgN c)) ∧ w' = w := by
  by_cases h : 48 ≤ c
  · have HZ : Hid (dgN c = decide ((c : Int) ≤ 57)) := by
      have : decide (48 ≤ c) = true := by simpa using h
      rw [Hid, dgN, this, Bool.true_and]
      exact decide_eq_decide.2 (by omega)
    go_enter Tryd.func60, Tryd.ntmps60
    go_wp2
    go_ret
    exact ⟨by rw [HZ.out]; rfl, rfl⟩
  · have HZ : Hid (dgN c = false) := by simp [Hid, dgN, h]
    go_enter Tryd.func60, Tryd.ntmps60
    go_wp2
    go_ret
    exact ⟨by rw [HZ.out]; rfl, rfl⟩
end Go.Proofs.YtelhgjepjieocaaDoor

/- Layer 18 (json): skipSpace, takeWord. -/
namespace Go.Proofs.YtelhgjepjieocaaDoor
open Go.RowKit
set_option linter.unusedVariables false

def isSpN (c : Nat) : Bool := c == 32 || c == 9 || c == 10 || c == 13
/-- Behind the space. -/
def spL : List UInt8 → List UInt8
  | [] => []
  | x :: l => if isSpN x.toNat then spL l else x :: l
theorem spL_yes {l : List UInt8} {c : Nat} (h : hdN l = some c) (hc : isSpN c = true) : spL l.tail = spL l := by
  cases l with
  | nil => cases h
  | cons x l =>
    cases h
    show spL l = if isSpN x.toNat then spL l else x :: l
    rw [if_pos hc]
theorem spL_no {l : List UInt8} (h : ∀ c, hdN l = some c → isSpN c = false) : spL l = l := by
  cases l with
  | nil => rfl
  | cons x l =>
    show (if isSpN x.toNat then spL l else x :: l) = _
    rw [h x.toNat rfl]; rfl
theorem spL_len : ∀ (l : List UInt8), (spL l).length ≤ l.length
  | [] => Nat.le_refl _
  | x :: l => by
    show (if isSpN x.toNat then spL l else x :: l).length ≤ _
    split
    · have := spL_len l; simp; omega
    · exact Nat.le_refl _
theorem spL_not (l : List UInt8) : ∀ c, hdN (spL l) = some c → isSpN c = false := by
  induction l with
  | nil => intro c h; cases h
  | cons x l ih =>
    intro c h
    have e : spL (x :: l) = if isSpN x.toNat then spL l else x :: l := rfl
    rw [e] at h
    split at h
    · exact ih c h
    · rename_i h0
      cases h
      exact Bool.eq_false_iff.2 h0
theorem spL_spL (l : List UInt8) : spL (spL l) = spL l := spL_no (spL_not l)
def rdAt (w : World) (rb : Nat) : Nat := match w.cell? ⟨rb, 1, none⟩ with
  | some (.int _ v) => v.toNat
  | _ => 0
theorem Rd.at {w : World} {rb n : Nat} {s : ByteArray} {l : List UInt8} (h : Rd w rb s n l) : rdAt w rb = n := by
  unfold rdAt
  rw [h.cells.2.1]
  simp
theorem jsp_none {l : List UInt8} (h1 : ¬ hdN l = some 32) (h2 : ¬ hdN l = some 9) (h3 : ¬ hdN l = some 10) (h4 : ¬ hdN l = some 13) : spL l = l := spL_no fun c hc => by
  have k1 : c ≠ 32 := fun e => h1 (by rw [hc, e])
  have k2 : c ≠ 9 := fun e => h2 (by rw [hc, e])
  have k3 : c ≠ 10 := fun e => h3 (by rw [hc, e])
  have k4 : c ≠ 13 := fun e => h4 (by rw [hc, e])
  simp [isSpN, k1, k2, k3, k4]

set_option maxRecDepth 100000 in
set_option maxHeartbeats 2000000 in
theorem skip_calls (w : World) (rb n : Nat) (s : ByteArray) (l : List UInt8) (h : Rd w rb s n l) :
    Calls Tryd.prog 42 #[.pointer (some ⟨rb, 0, none⟩)] w fun e w' => e = .returned (.tuple #[]) ∧ RdP w rb s (spL l) w' := by
  have HI : Hid (∃ m l', Rd w rb s m l' ∧ spL l' = spL l ∧ Frm (fun k => k = rb) w w) := ⟨n, l, h, rfl, Frm.refl _ _⟩
  clear h
  go_enter Tryd.func42, Tryd.ntmps42
  go_wp2_with fail
  go_loopw [] (fun wr => Hid (∃ m l', Rd wr rb s m l' ∧ spL l' = spL l ∧ Frm (fun k => k = rb) w wr)) (fun wr => s.size - rdAt wr rb)
  case atStart => exact HI
  case round =>
    clear HI
    obtain ⟨m, l', h', hs, hf⟩ := hrel.out
    clear hrel
    go_wp2_with fail
    refine (take_calls wr rb m s l' 32 32 h' rfl).mono ?_
    rintro e w1 ⟨rfl, ⟨m1, h1⟩, f1⟩
    have g1 := hf.trans f1
    by_cases k0 : hdN l' = some 32
    · have hm := h'.len
      have hn := h'.at
      rw [tkL_yes k0] at h1
      rw [decide_eq_true k0]
      have hm1 := h1.len
      have hn1 := h1.at
      have hl : l'.length = l'.tail.length + 1 := by
        cases l' with
        | nil => cases k0
        | cons x l' => rfl
      have HN : Hid (∃ m l'', Rd w1 rb s m l'' ∧ spL l'' = spL l ∧ Frm (fun k => k = rb) w w1) := ⟨_, _, h1, (spL_yes k0 rfl).trans hs, g1⟩
      clear h' hf f1 g1 h1 hs
      go_wp2
      go_roundw
      case rel => exact HN
      case measure => rw [hn, hn1]; omega
    · rw [tkL_no k0] at h1
      rw [decide_eq_false k0]
      go_wp2_with fail
      refine (take_calls w1 rb m1 s l' 9 9 h1 rfl).mono ?_
      rintro e w2 ⟨rfl, ⟨m2, h2⟩, f2⟩
      have g2 := g1.trans f2
      by_cases k1 : hdN l' = some 9
      · have hm := h'.len
        have hn := h'.at
        rw [tkL_yes k1] at h2
        rw [decide_eq_true k1]
        have hm1 := h2.len
        have hn1 := h2.at
        have hl : l'.length = l'.tail.length + 1 := by
          cases l' with
          | nil => cases k1
          | cons x l' => rfl
        have HN : Hid (∃ m l'', Rd w2 rb s m l'' ∧ spL l'' = spL l ∧ Frm (fun k => k = rb) w w2) := ⟨_, _, h2, (spL_yes k1 rfl).trans hs, g2⟩
        clear h' hf f2 g2 h2 hs
        go_wp2
        go_roundw
        case rel => exact HN
        case measure => rw [hn, hn1]; omega
      · rw [tkL_no k1] at h2
        rw [decide_eq_false k1]
        go_wp2_with fail
        refine (take_calls w2 rb m2 s l' 10 10 h2 rfl).mono ?_
        rintro e w3 ⟨rfl, ⟨m3, h3⟩, f3⟩
        have g3 := g2.trans f3
        by_cases k2 : hdN l' = some 10
        · have hm := h'.len
          have hn := h'.at
          rw [tkL_yes k2] at h3
          rw [decide_eq_true k2]
          have hm1 := h3.len
          have hn1 := h3.at
          have hl : l'.length = l'.tail.length + 1 := by
            cases l' with
            | nil => cases k2
            | cons x l' => rfl
          have HN : Hid (∃ m l'', Rd w3 rb s m l'' ∧ spL l'' = spL l ∧ Frm (fun k => k = rb) w w3) := ⟨_, _, h3, (spL_yes k2 rfl).trans hs, g3⟩
          clear h' hf f3 g3 h3 hs
          go_wp2
          go_roundw
          case rel => exact HN
          case measure => rw [hn, hn1]; omega
        · rw [tkL_no k2] at h3
          rw [decide_eq_false k2]
          go_wp2_with fail
          refine (take_calls w3 rb m3 s l' 13 13 h3 rfl).mono ?_
          rintro e w4 ⟨rfl, ⟨m4, h4⟩, f4⟩
          have g4 := g3.trans f4
          by_cases k3 : hdN l' = some 13
          · have hm := h'.len
            have hn := h'.at
            rw [tkL_yes k3] at h4
            rw [decide_eq_true k3]
            have hm1 := h4.len
            have hn1 := h4.at
            have hl : l'.length = l'.tail.length + 1 := by
              cases l' with
              | nil => cases k3
              | cons x l' => rfl
            have HN : Hid (∃ m l'', Rd w4 rb s m l'' ∧ spL l'' = spL l ∧ Frm (fun k => k = rb) w w4) := ⟨_, _, h4, (spL_yes k3 rfl).trans hs, g4⟩
            clear h' hf f4 g4 h4 hs
            go_wp2
            go_roundw
            case rel => exact HN
            case measure => rw [hn, hn1]; omega
          · rw [tkL_no k3] at h4
            rw [decide_eq_false k3]
            have e0 : l' = spL l := by rw [← hs, jsp_none k0 k1 k2 k3]
            rw [e0] at h4
            go_wp2
            go_end0
            exact ⟨rfl, ⟨m4, h4⟩, g4⟩
end Go.Proofs.YtelhgjepjieocaaDoor
