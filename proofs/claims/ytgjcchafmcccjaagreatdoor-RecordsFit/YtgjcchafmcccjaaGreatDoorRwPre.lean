import Derived.Test.YtgjcchafmcccjaaGreatDoorKREncode
import Derived.Test.YtgjcchafmcccjaaGreatDoorKPartsG
import Derived.Test.YtgjcchafmcccjaaGreatDoorRwLowR
import Derived.Test.YtgjcchafmcccjaaGreatDoorRwAll3
/- Layer 7 (rows): the document's KeysOf. -/
namespace Go.Proofs.YtgjcchafmcccjaaGreatDoor
open Go.RowKit
set_option linter.unusedVariables false
attribute [local go_sem] Oper.semAt_some

/-- Texts that a machine can hold many times over. -/
def SmallC (cs : List CV) : Prop := ∀ c ∈ cs, c.t.size ≤ 1000000000000 ∧ ∀ s ∈ c.l, s.size ≤ 1000000000000
theorem SmallC.cell {cs : List CV} (h : SmallC cs) (i : Nat) : (cs.getD i noC).t.size ≤ 1000000000000 ∧ ∀ s ∈ (cs.getD i noC).l, s.size ≤ 1000000000000 := by
  rw [List.getD_eq_getElem?_getD]
  cases hc : cs[i]? with
  | none => exact ⟨by show (0 : Nat) ≤ _; omega, fun s hs => by simp [noC] at hs⟩
  | some c => exact h c (List.mem_of_getElem? hc)
theorem SmallC.elems {cs : List CV} (h : SmallC cs) (fs : List Fd) (ov : List Int) : ∀ e ∈ elemsOf fs ov cs, e.size ≤ 1000000000000 := by
  unfold elemsOf
  cases listP fs ov with
  | none => intro e he; simp only [List.mem_singleton] at he; subst he; show (0 : Nat) ≤ _; omega
  | some p => exact (h.cell _).2
theorem SmallC.own {cs : List CV} (h : SmallC cs) (fs : List Fd) (x : Ix) {e : ByteArray} (he : e.size ≤ 1000000000000) : ∀ q ∈ ownP fs x cs e, q.t.size ≤ 1000000000000 := by
  intro q hq
  rw [ownP_map] at hq
  obtain ⟨p, _, rfl⟩ := List.mem_map.1 hq
  have h1 : (cellP fs cs e p).t.size ≤ 1000000000000 := by
    unfold cellP
    dsimp only
    split
    · exact (h.cell _).1
    · split
      · exact he
      · show (0 : Nat) ≤ _; omega
  unfold lowIfP
  split
  · show (lowS _).size ≤ _
    rw [lowS_size]; exact h1
  · exact h1
theorem SmallC.lists {cs : List CV} (h : SmallC cs) (t : Tb) (x : Ix) : ∀ ps ∈ listsR t x cs, ∀ p ∈ ps, p.t.size ≤ 1000000000000 := by
  intro ps hps p hp
  unfold listsR at hps
  obtain ⟨e, he, h1⟩ := List.mem_filterMap.1 hps
  unfold oneR at h1
  split at h1
  · cases h1
  · obtain rfl := Option.some.inj h1
    rcases List.mem_append.1 hp with hp | hp
    · exact h.own _ _ (h.elems _ _ e he) p hp
    · unfold behindP at hp
      split at hp
      · simp at hp
      · exact h.own _ _ (by show (0 : Nat) ≤ _; omega) p hp
theorem enc_le (op : Bool) : ∀ ps : List Pt, (∀ p ∈ ps, p.t.size ≤ 1000000000000) → (enc op ps).length ≤ ps.length * 2000000000009
  | [], _ => by simp [enc]
  | p :: ps, h => by
    rw [enc_cons, List.length_append, List.length_cons]
    have h1 := piece_length p (op && ps.isEmpty)
    have h2 := enc_le op ps fun q hq => h q (List.mem_cons_of_mem _ hq)
    have h3 := h p (List.mem_cons_self ..)
    omega
theorem keyOf_le (ps : List Pt) : (keyOf ps).length ≤ 1024 := by
  unfold keyOf encAns
  split
  · split
    · assumption
    · simp
  · simp
theorem putR_lenT (k : Bs) : ∀ l : List Bs, (putR k true l).length ≤ l.length
  | [] => by simp [putR]
  | x :: l => by
    have h := putR_lenT k l
    rw [putR_cons]
    by_cases hx : x = k
    · simp [hx]; omega
    · simp [hx]; omega
theorem putR_len (k : Bs) : ∀ (l : List Bs), (putR k false l).length ≤ l.length + 1
  | [] => by simp [putR]
  | x :: l => by
    rw [putR_cons]
    by_cases h : x < k
    · have h1 := putR_len k l
      have hx : ¬ x = k := fun e => by subst e; exact List.lt_irrefl _ h
      simp only [h, hx, decide_true, Bool.not_true, Bool.and_false, Bool.or_false, if_false, List.nil_append, Bool.false_eq_true, List.length_append, List.length_cons, List.length_nil]
      omega
    · have h1 := putR_lenT k l
      rw [decide_eq_false h]
      show ([k] ++ ((if x = k then [] else [x]) ++ putR k true l)).length ≤ l.length + 1 + 1
      by_cases hx : x = k
      · rw [if_pos hx]; simp only [List.nil_append, List.length_append, List.length_cons, List.length_nil]; omega
      · rw [if_neg hx]; simp only [List.length_append, List.length_cons, List.length_nil]; omega

end Go.Proofs.YtgjcchafmcccjaaGreatDoor

/- The walk of Begin. -/
namespace Go.Proofs.YtgjcchafmcccjaaGreatDoor
open Go.RowKit
set_option linter.unusedVariables false

end Go.Proofs.YtgjcchafmcccjaaGreatDoor

/- Layer 7 (rows): canBegin, Probe. -/
namespace Go.Proofs.YtgjcchafmcccjaaGreatDoor
open Go.RowKit
set_option linter.unusedVariables false
attribute [local go_sem] Oper.semAt_some

/-- Are the parts' kinds those of the fields? -/
def kindsB (fs : List Fd) : List Int → List Pt → Bool
  | _, [] => true
  | [], _ :: _ => false
  | p :: ov, q :: ps => (q.k == partK (fs.getD p.toNat noF).k) && kindsB fs ov ps
def canB (fs : List Fd) (ov : List Int) (ps : List Pt) : Bool := decide (ps.length ≤ ov.length) && (kindsB fs ov ps && ps.all vldB)
def probeP (t : Tb) (p : Int) (ps : List Pt) (op : Bool) : List UInt8 × Int :=
  if placeB t p = false then ([], 75) else
  if canB t.fs (t.xs.getD p.toNat noX).ov ps = false then ([], 76) else
  if (encAns op (if (t.xs.getD p.toNat noX).l then ps.map lowPt else ps)).2 ≠ 0 then ([], 74) else ((encAns op (if (t.xs.getD p.toNat noX).l then ps.map lowPt else ps)).1, 0)
theorem cmp_nil (ps : List Pt) : (cmpAns ps []).2 = if ps.all vldB then 0 else 10 := by
  unfold cmpAns
  cases h : ps.all vldB <;> simp

end Go.Proofs.YtgjcchafmcccjaaGreatDoor

/- Layer 7 (rows): which keys begin with which; the document's Starts. -/
namespace Go.Proofs.YtgjcchafmcccjaaGreatDoor
open Go.RowKit
set_option linter.unusedVariables false

def startsB (s p : List UInt8) : Bool := decide (p.length ≤ s.length) && (s.take p.length == p)
theorem extract_take (s : ByteArray) (k : Nat) : (s.extract 0 k).data.toList = s.data.toList.take k := by
  rw [ByteArray.data_extract]
  simp
theorem starts_iff (s p : List UInt8) : startsB s p = true ↔ ∃ z, s = p ++ z := by
  unfold startsB
  rw [Bool.and_eq_true, decide_eq_true_eq, beq_iff_eq]
  constructor
  · rintro ⟨_, h2⟩
    exact ⟨s.drop p.length, by conv => lhs; rw [← List.take_append_drop p.length s, h2]⟩
  · rintro ⟨z, rfl⟩
    exact ⟨by simp, by simp⟩
theorem esc_cons (c : UInt8) (r : List UInt8) : esc (c :: r) = (if c = 0 then [0, 255] else [c]) ++ esc r := by simp [esc]
theorem esc_apart : ∀ (u t a b : List UInt8), esc u ++ 0 :: 1 :: a = esc t ++ 0 :: 1 :: b → u = t ∧ a = b
  | [], [], a, b, h => by simp [esc] at h; exact ⟨rfl, h⟩
  | [], d :: t, a, b, h => by
    rw [esc_cons] at h
    by_cases hd : d = 0
    · simp [esc, hd] at h
    · simp [esc, hd] at h
      exact absurd h.1.symm hd
  | c :: u, [], a, b, h => by
    rw [esc_cons] at h
    by_cases hc : c = 0
    · simp [esc, hc] at h
    · simp [esc, hc] at h
  | c :: u, d :: t, a, b, h => by
    rw [esc_cons, esc_cons] at h
    by_cases hc : c = 0
    · by_cases hd : d = 0
      · rw [if_pos hc, if_pos hd] at h
        simp only [List.cons_append, List.nil_append, List.cons.injEq, true_and] at h
        have ih := esc_apart u t a b h
        exact ⟨by rw [hc, hd, ih.1], ih.2⟩
      · rw [if_pos hc, if_neg hd] at h
        simp only [List.cons_append, List.nil_append, List.cons.injEq] at h
        exact absurd h.1.symm hd
    · by_cases hd : d = 0
      · rw [if_neg hc, if_pos hd] at h
        simp only [List.cons_append, List.nil_append, List.cons.injEq] at h
        exact absurd h.1 hc
      · rw [if_neg hc, if_neg hd] at h
        simp only [List.cons_append, List.nil_append, List.cons.injEq] at h
        have ih := esc_apart u t a b h.2
        exact ⟨by rw [h.1, ih.1], ih.2⟩
def numOfB (l : List UInt8) : Nat := l.foldl (fun n c => n * 256 + c.toNat) 0
theorem numOfB_num8 (n : Int) (h0 : 0 ≤ n) (h1 : n ≤ 18446744073709551615) : (numOfB (num8 n) : Int) = n := by
  have hb := fun i => numByte_val n i
  have e : num8 n = [numByte n 0, numByte n 1, numByte n 2, numByte n 3, numByte n 4, numByte n 5, numByte n 6, numByte n 7] := by simp [num8, List.range_succ]
  have b0 := hb 0; have b1 := hb 1; have b2 := hb 2; have b3 := hb 3
  have b4 := hb 4; have b5 := hb 5; have b6 := hb 6; have b7 := hb 7
  simp at b0 b1 b2 b3 b4 b5 b6 b7
  rw [e]
  simp only [numOfB, List.foldl_cons, List.foldl_nil]
  omega
theorem num8_apart {m n : Int} {a b : List UInt8} (hm : 0 ≤ m ∧ m ≤ 18446744073709551615) (hn : 0 ≤ n ∧ n ≤ 18446744073709551615) (h : num8 m ++ a = num8 n ++ b) : m = n ∧ a = b := by
  have hl : ∀ x, (num8 x).length = 8 := fun x => by simp [num8]
  obtain ⟨h1, h2⟩ := List.append_inj h (by rw [hl, hl])
  have := numOfB_num8 m hm.1 hm.2
  rw [h1, numOfB_num8 n hn.1 hn.2] at this
  exact ⟨this.symm, h2⟩
theorem bytes_ext {a b : ByteArray} (h : a.data.toList = b.data.toList) : a = b := by
  apply ByteArray.ext
  exact Array.toList_inj.1 h
/-- Texts and numbers: what a row's parts are. -/
def Plain (p : Pt) : Prop := (p.k = 1 ∧ p.n = 0) ∨ (p.k = 2 ∧ p.t = ⟨#[]⟩)
theorem piece_apart {p q : Pt} {a b : List UInt8} (hp : Plain p) (hq : Plain q) (hwp : p.wf) (hwq : q.wf) (h : piece p false ++ a = piece q false ++ b) : p = q ∧ a = b := by
  obtain ⟨pk, pt, pn⟩ := p
  obtain ⟨qk, qt, qn⟩ := q
  unfold Plain at hp hq
  dsimp only at hp hq
  rcases hp with ⟨rfl, rfl⟩ | ⟨rfl, rfl⟩
  · rcases hq with ⟨rfl, rfl⟩ | ⟨rfl, rfl⟩
    · simp only [piece, beq_self_eq_true, if_true, Bool.false_eq_true, if_false, List.cons_append, List.append_assoc, List.nil_append, List.cons.injEq, true_and] at h
      obtain ⟨h1, h2⟩ := esc_apart _ _ _ _ h
      exact ⟨by rw [bytes_ext h1], h2⟩
    · simp [piece] at h
  · rcases hq with ⟨rfl, rfl⟩ | ⟨rfl, rfl⟩
    · simp [piece] at h
    · simp only [piece, show ((2 : Int) == 1) = false from rfl, beq_self_eq_true, if_true, Bool.false_eq_true, if_false, List.cons_append, List.cons.injEq, true_and] at h
      obtain ⟨h1, h2⟩ := num8_apart hwp.2.1 hwq.2.1 h
      dsimp only at h1
      exact ⟨by rw [h1], h2⟩
theorem piece_ne (p : Pt) : piece p false ≠ [] := by unfold piece; split <;> (try split) <;> simp
theorem enc_fcons (p : Pt) (r : List Pt) : enc false (p :: r) = piece p false ++ enc false r := by rw [enc_cons]; rfl
theorem enc_fappend (ps qs : List Pt) : enc false (ps ++ qs) = enc false ps ++ enc false qs := by
  induction ps with
  | nil => rfl
  | cons p ps ih => rw [List.cons_append, enc_fcons, enc_fcons, ih, List.append_assoc]
/-- A key begins with another's just where its list does. -/
theorem enc_prefix : ∀ (qs ps : List Pt) (z : List UInt8), (∀ p ∈ ps, Plain p ∧ p.wf) → (∀ q ∈ qs, Plain q ∧ q.wf) → enc false ps = enc false qs ++ z → ∃ rest, ps = qs ++ rest
  | [], ps, z, _, _, _ => ⟨ps, rfl⟩
  | q :: qs, [], z, _, _, h => by
    rw [enc_fcons] at h
    have : piece q false = [] := by
      have := congrArg List.length h
      simp only [enc, List.length_nil, List.length_append] at this
      exact List.length_eq_zero_iff.1 (by omega)
    exact absurd this (piece_ne q)
  | q :: qs, p :: ps, z, hp, hq, h => by
    rw [enc_fcons, enc_fcons, List.append_assoc] at h
    have h1 := hp p (List.mem_cons_self ..)
    have h2 := hq q (List.mem_cons_self ..)
    obtain ⟨rfl, h3⟩ := piece_apart h1.1 h2.1 h1.2 h2.2 h
    obtain ⟨rest, rfl⟩ := enc_prefix qs ps z (fun x hx => hp x (List.mem_cons_of_mem _ hx)) (fun x hx => hq x (List.mem_cons_of_mem _ hx)) h3
    exact ⟨rest, rfl⟩
theorem starts_enc {ps qs bh : List Pt} (hps : ∀ p ∈ ps, Plain p ∧ p.wf) (hbh : ∀ p ∈ bh, Plain p ∧ p.wf) (hqs : ∀ q ∈ qs, Plain q ∧ q.wf) (hl : ps.length = qs.length) : startsB (enc false (ps ++ bh)) (enc false qs) = true ↔ ps = qs := by
  rw [starts_iff]
  constructor
  · rintro ⟨z, hz⟩
    obtain ⟨rest, hr⟩ := enc_prefix qs (ps ++ bh) z (fun p hp => by rcases List.mem_append.1 hp with h | h; exact hps p h; exact hbh p h) hqs hz
    exact (List.append_inj hr hl).1
  · rintro rfl
    exact ⟨enc false bh, enc_fappend _ _⟩
theorem enc_inj {ps qs : List Pt} (hps : ∀ p ∈ ps, Plain p ∧ p.wf) (hqs : ∀ q ∈ qs, Plain q ∧ q.wf) (h : enc false ps = enc false qs) : ps = qs := by
  obtain ⟨r, h1⟩ := enc_prefix qs ps [] hps hqs (by rw [List.append_nil]; exact h)
  obtain ⟨r', h2⟩ := enc_prefix ps qs [] hqs hps (by rw [List.append_nil]; exact h.symm)
  have e1 := congrArg List.length h1
  have e2 := congrArg List.length h2
  rw [List.length_append] at e1 e2
  have : r = [] := List.length_eq_zero_iff.1 (by omega)
  rw [h1, this, List.append_nil]
end Go.Proofs.YtgjcchafmcccjaaGreatDoor
