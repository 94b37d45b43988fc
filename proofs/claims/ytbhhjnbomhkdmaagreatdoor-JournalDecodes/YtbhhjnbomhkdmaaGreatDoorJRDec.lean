import Derived.Test.YtbhhjnbomhkdmaaGreatDoorJDNum
/- Layer 13 (journal): what the document's opAt answers, plain. -/
namespace Go.Proofs.YtbhhjnbomhkdmaaGreatDoor
open Go.RowKit
set_option linter.unusedVariables false

def manyP (k : Nat) : Nat := if k = 1 then 2 else if k = 2 then 3 else if k = 3 then 3 else if k = 4 then 1 else 2
def tAt (x : List ByteArray) (i : Nat) : ByteArray := x.getD i ⟨#[]⟩
/-- The operation of kind k behind its compare-and-set, and what is left. -/
def rbP (k : Nat) (c : Bool) (want : Nat) (r : List UInt8) : Option (Opp × List UInt8) :=
 let t := txsP (manyP k) (r, false)
 if t.2.2 then none else
 if k = 1 then some (⟨k, ⟨tAt t.1 0, tAt t.1 1, 0, 0⟩, svcZ, chkZ, c, want⟩, t.2.1) else
 if k = 2 then
  if t.2.1.length < 3 then none else
  let u := txsP (t.2.1.getD 2 0).toNat (t.2.1.drop 3, false)
  if u.2.2 then none else some (⟨k, nodeZ, ⟨tAt t.1 0, tAt t.1 1, tAt t.1 2, (unbig (t.2.1.take 2) : Nat), u.1, 0, 0⟩, chkZ, c, want⟩, u.2.1) else
 if k = 3 then
  if t.2.1.length < 1 then none else
  let u := txsP 1 (t.2.1.drop 1, false)
  if u.2.2 then none else some (⟨k, nodeZ, svcZ, ⟨tAt t.1 0, tAt t.1 1, tAt t.1 2, ((t.2.1.getD 0 0).toNat : Nat), tAt u.1 0, 0, 0⟩, c, want⟩, u.2.1) else
 if k = 4 then some (⟨k, ⟨tAt t.1 0, ⟨#[]⟩, 0, 0⟩, svcZ, chkZ, c, want⟩, t.2.1) else
 if k = 5 then some (⟨k, nodeZ, ⟨tAt t.1 0, tAt t.1 1, ⟨#[]⟩, 0, [], 0, 0⟩, chkZ, c, want⟩, t.2.1) else
 some (⟨k, nodeZ, svcZ, ⟨tAt t.1 0, tAt t.1 1, ⟨#[]⟩, 0, ⟨#[]⟩, 0, 0⟩, c, want⟩, t.2.1)
/-- The operation that stands ahead, and what is left. -/
def raP (l : List UInt8) : Option (Opp × List UInt8) :=
 if l.length < 2 then none else
 if l.getD 1 0 = 1 then
  if l.length < 10 then none else
  if (l.getD 0 0).toNat < 1 ∨ 6 < (l.getD 0 0).toNat then none else rbP (l.getD 0 0).toNat true (unbig ((l.drop 2).take 8)) (l.drop 10) else
 if (l.getD 0 0).toNat < 1 ∨ 6 < (l.getD 0 0).toNat then none else rbP (l.getD 0 0).toNat false 0 (l.drop 2)

theorem rbP_app {o : Opp} (h : Snd o) (r : List UInt8) (c : Bool) (want : Nat) (hc : o.cas = c) (hw : o.want = (want : Int)) : rbP o.kind.toNat c want (bodyB o ++ r) = some (o, r) := by
 cases h with
 | node n a b x h1 h2 h3 =>
  simp only at hc hw
  subst hc hw
  have e : txsP 2 (txtsB [n, a] ++ r, false) = ([n, a], (r, false)) := txsP_app [n, a] r false (by simp; omega)
  simp [rbP, manyP, bodyB, e, tAt]
 | svc n i m p t b x h1 h2 h3 h4 h5 h6 h7 h8 =>
  simp only at hc hw
  subst hc hw
  have e : txsP 3 (txtsB [n, i, m] ++ (big 2 p ++ ([byteOf t.length] ++ (txtsB t ++ r))), false) = ([n, i, m], (big 2 p ++ ([byteOf t.length] ++ (txtsB t ++ r)), false)) := txsP_app [n, i, m] _ false (by simp; omega)
  have e2 : txsP t.length (txtsB t ++ r, false) = (t, (r, false)) := txsP_app t r false (fun y hy => by have := h8 y hy; omega)
  have hb : (bodyB ⟨2, nodeZ, ⟨n, i, m, p, t, 0, 0⟩, chkZ, b, (want : Int)⟩ ++ r) = txtsB [n, i, m] ++ (big 2 p ++ ([byteOf t.length] ++ (txtsB t ++ r))) := by simp [bodyB, svcB]
  have hl := big_length 2 p
  have hg : (big 2 p ++ ([byteOf t.length] ++ (txtsB t ++ r))).getD 2 0 = byteOf t.length := by
   rw [List.getD, List.getElem?_append_right (by omega), hl]; simp
  have hd : (big 2 p ++ ([byteOf t.length] ++ (txtsB t ++ r))).drop 3 = txtsB t ++ r := by
   rw [List.drop_append, hl, List.drop_of_length_le (by omega)]; simp
  have hu : ((unbig ((big 2 p ++ ([byteOf t.length] ++ (txtsB t ++ r))).take 2) : Nat) : Int) = p := by
   rw [List.take_left' hl]; exact unbig_big 2 p (by omega) (by omega)
  have hlen : ¬ (big 2 p ++ ([byteOf t.length] ++ (txtsB t ++ r))).length < 3 := by rw [List.length_append, hl]; simp; omega
  rw [hb]
  have hbt : (byteOf (t.length : Int)).toNat = t.length := byteOf_nat t.length (by omega)
  simp only [rbP, manyP]
  simp only [show ((2 : Int).toNat) = 2 from rfl, show (2 : Nat) ≠ 1 from by decide, if_false, if_true, e, hlen, hg, hd, hbt, e2, hu]
  simp [tAt]
 | chk n i m p t b x h1 h2 h3 h4 h5 h6 h7 =>
  simp only at hc hw
  subst hc hw
  have e : txsP 3 (txtsB [n, i, m] ++ (byteOf p :: (txtsB [t] ++ r)), false) = ([n, i, m], (byteOf p :: (txtsB [t] ++ r), false)) := txsP_app [n, i, m] _ false (by simp; omega)
  have e2 : txsP 1 (txtsB [t] ++ r, false) = ([t], (r, false)) := txsP_app [t] r false (by simp; omega)
  have hb : (bodyB ⟨3, nodeZ, svcZ, ⟨n, i, m, p, t, 0, 0⟩, b, (want : Int)⟩ ++ r) = txtsB [n, i, m] ++ (byteOf p :: (txtsB [t] ++ r)) := by simp [bodyB, chkB]
  have hbt : ((byteOf p).toNat : Int) = p := by rw [byteOf_val]; omega
  rw [hb]
  simp only [rbP, manyP]
  simp only [show ((3 : Int).toNat) = 3 from rfl, show (3 : Nat) ≠ 1 from by decide, show (3 : Nat) ≠ 2 from by decide, if_false, if_true, e]
  simp [e2, hbt, tAt]
 | dnode n b x h1 h2 =>
  simp only at hc hw
  subst hc hw
  have e : txsP 1 (txtsB [n] ++ r, false) = ([n], (r, false)) := txsP_app [n] r false (by simp; omega)
  simp [rbP, manyP, bodyB, e, tAt]
 | dsvc n i b x h1 h2 h3 =>
  simp only at hc hw
  subst hc hw
  have e : txsP 2 (txtsB [n, i] ++ r, false) = ([n, i], (r, false)) := txsP_app [n, i] r false (by simp; omega)
  simp [rbP, manyP, bodyB, e, tAt]
 | dchk n i b x h1 h2 h3 =>
  simp only at hc hw
  subst hc hw
  have e : txsP 2 (txtsB [n, i] ++ r, false) = ([n, i], (r, false)) := txsP_app [n, i] r false (by simp; omega)
  simp [rbP, manyP, bodyB, e, tAt]
theorem raP_app {o : Opp} (h : Snd o) (hr : 0 ≤ o.want ∧ o.want ≤ 18446744073709551615) (r : List UInt8) : raP (opB o ++ r) = some (o, r) := by
 have hw : o.cas = false → o.want = 0 := by cases h <;> assumption
 have hk : 1 ≤ o.kind ∧ o.kind ≤ 6 := by cases h <;> exact ⟨by simp, by simp⟩
 have hkv : ((byteOf o.kind).toNat : Int) = o.kind := by rw [byteOf_val]; omega
 have hkn : (byteOf o.kind).toNat = o.kind.toNat := by omega
 cases hc : o.cas with
 | true =>
  have e : opB o ++ r = byteOf o.kind :: 1 :: (big 8 o.want ++ (bodyB o ++ r)) := by simp [opB, casB, hc]
  have hl := big_length 8 o.want
  have hu : ((unbig ((big 8 o.want ++ (bodyB o ++ r)).take 8) : Nat) : Int) = o.want := by
   rw [List.take_left' hl]; exact unbig_big 8 o.want hr.1 (by omega)
  have hd : (big 8 o.want ++ (bodyB o ++ r)).drop 8 = bodyB o ++ r := List.drop_left' hl
  have hb := rbP_app h r true (unbig ((big 8 o.want ++ (bodyB o ++ r)).take 8)) hc hu.symm
  rw [e]
  unfold raP
  rw [if_neg (by simp), if_pos (by simp), if_neg (by simp [hl]), if_neg (by simp [hkn]; omega)]
  have e1 : (byteOf o.kind :: 1 :: (big 8 o.want ++ (bodyB o ++ r))).getD 0 0 = byteOf o.kind := rfl
  have e2 : (byteOf o.kind :: 1 :: (big 8 o.want ++ (bodyB o ++ r))).drop 2 = big 8 o.want ++ (bodyB o ++ r) := rfl
  have e3 : (byteOf o.kind :: 1 :: (big 8 o.want ++ (bodyB o ++ r))).drop 10 = (big 8 o.want ++ (bodyB o ++ r)).drop 8 := rfl
  rw [e1, e2, e3, hd, hkn]
  exact hb
 | false =>
  have e : opB o ++ r = byteOf o.kind :: 0 :: (bodyB o ++ r) := by simp [opB, casB, hc]
  have hb := rbP_app h r false 0 hc (by rw [hw hc]; rfl)
  rw [e]
  unfold raP
  rw [if_neg (by simp), if_neg (by simp), if_neg (by simp [hkn]; omega)]
  have e1 : (byteOf o.kind :: 0 :: (bodyB o ++ r)).getD 0 0 = byteOf o.kind := rfl
  have e2 : (byteOf o.kind :: 0 :: (bodyB o ++ r)).drop 2 = bodyB o ++ r := rfl
  rw [e1, e2, hkn]
  exact hb
/-- Texts that are cut have at most 255 bytes. -/
theorem txB_le (s : Rd) : (txB s).length ≤ 255 := by
 have h1 := tkB_len (smlB s) (tkS 1 s)
 have h2 := smlB_lt s
 unfold txB
 omega
theorem txsP_small : ∀ (n : Nat) (s : Rd), ∀ t ∈ (txsP n s).1, t.size ≤ 255
 | 0, s, t, ht => by simp [txsP] at ht
 | n + 1, s, t, ht => by
  simp only [txsP, List.mem_append, List.mem_singleton] at ht
  rcases ht with ht | rfl
  ·exact txsP_small n s t ht
  ·have := txB_le (txsP n s).2
   show (txB (txsP n s).2).toArray.size ≤ 255
   simpa using this
theorem tAt_small (n : Nat) (s : Rd) (i : Nat) : (tAt (txsP n s).1 i).size ≤ 255 := by
 unfold tAt
 rw [List.getD]
 cases h : (txsP n s).1[i]? with
 | none =>
  show (⟨#[]⟩ : ByteArray).size ≤ 255
  decide
 | some t => exact txsP_small n s t (List.mem_of_getElem? h)
theorem opp_small {k want : Int} {n : Nd} {s : Sp} {c : Ck} {b : Bool} (hn : n.name.size ≤ 255 ∧ n.addr.size ≤ 255) (hs : s.node.size ≤ 255 ∧ s.id.size ≤ 255 ∧ s.name.size ≤ 255 ∧ s.tags.length ≤ 255 ∧ ∀ t ∈ s.tags, t.size ≤ 255) (hc : c.node.size ≤ 255 ∧ c.id.size ≤ 255 ∧ c.service.size ≤ 255 ∧ c.note.size ≤ 255) :
  (⟨k, n, s, c, b, want⟩ : Opp).small ∧ s.tags.length ≤ 255 ∧ n.addr.size ≤ 255 := by
 obtain ⟨n1, n2⟩ := hn
 obtain ⟨s1, s2, s3, s4, s5⟩ := hs
 obtain ⟨c1, c2, c3, c4⟩ := hc
 exact ⟨⟨Nat.le_trans n1 (by decide), Nat.le_trans n2 (by decide), ⟨Nat.le_trans s1 (by decide), Nat.le_trans s2 (by decide), Nat.le_trans s3 (by decide), Nat.le_trans s4 (by decide), fun x hx => Nat.le_trans (s5 x hx) (by decide)⟩, ⟨Nat.le_trans c1 (by decide), Nat.le_trans c2 (by decide), Nat.le_trans c3 (by decide), Nat.le_trans c4 (by decide)⟩⟩, s4, n2⟩
theorem nz_small : nodeZ.name.size ≤ 255 ∧ nodeZ.addr.size ≤ 255 := by decide
theorem sz_small : svcZ.node.size ≤ 255 ∧ svcZ.id.size ≤ 255 ∧ svcZ.name.size ≤ 255 ∧ svcZ.tags.length ≤ 255 ∧ ∀ t ∈ svcZ.tags, t.size ≤ 255 := ⟨by decide, by decide, by decide, by decide, fun t ht => by cases ht⟩
theorem cz_small : chkZ.node.size ≤ 255 ∧ chkZ.id.size ≤ 255 ∧ chkZ.service.size ≤ 255 ∧ chkZ.note.size ≤ 255 := by decide
theorem e_small : (⟨#[]⟩ : ByteArray).size ≤ 255 := by decide
set_option maxHeartbeats 1000000 in
/-- What comes of any bytes is small. -/
theorem rbP_small {k : Nat} {c : Bool} {want : Nat} {r : List UInt8} {o : Opp} {r' : List UInt8} (h : rbP k c want r = some (o, r')) : o.kind = (k : Nat) ∧ o.want = (want : Nat) ∧ o.small ∧ o.svc.tags.length ≤ 255 ∧ o.node.addr.size ≤ 255 := by
 unfold rbP at h
 simp only at h
 have a0 := tAt_small (manyP k) (r, false) 0
 have a1 := tAt_small (manyP k) (r, false) 1
 have a2 := tAt_small (manyP k) (r, false) 2
 split at h
 ·cases h
 split at h
 ·obtain ⟨rfl, rfl⟩ := Prod.mk.inj (Option.some.inj h)
  exact ⟨rfl, rfl, opp_small ⟨a0, a1⟩ sz_small cz_small⟩
 split at h
 ·split at h
  ·cases h
  split at h
  ·cases h
  ·obtain ⟨rfl, rfl⟩ := Prod.mk.inj (Option.some.inj h)
   refine ⟨rfl, rfl, opp_small nz_small ⟨a0, a1, a2, ?_, fun t ht => txsP_small ((txsP (manyP k) (r, false)).2.1.getD 2 0).toNat ((txsP (manyP k) (r, false)).2.1.drop 3, false) t ht⟩ cz_small⟩
   rw [(txsP_len _ _).1]
   have := ((txsP (manyP k) (r, false)).2.1.getD 2 0).toNat_lt
   omega
 split at h
 ·split at h
  ·cases h
  split at h
  ·cases h
  ·obtain ⟨rfl, rfl⟩ := Prod.mk.inj (Option.some.inj h)
   exact ⟨rfl, rfl, opp_small nz_small sz_small ⟨a0, a1, a2, tAt_small 1 ((txsP (manyP k) (r, false)).2.1.drop 1, false) 0⟩⟩
 split at h
 ·obtain ⟨rfl, rfl⟩ := Prod.mk.inj (Option.some.inj h)
  exact ⟨rfl, rfl, opp_small ⟨a0, e_small⟩ sz_small cz_small⟩
 split at h
 ·obtain ⟨rfl, rfl⟩ := Prod.mk.inj (Option.some.inj h)
  exact ⟨rfl, rfl, opp_small nz_small ⟨a0, a1, e_small, Nat.zero_le _, fun t ht => by cases ht⟩ cz_small⟩
 ·obtain ⟨rfl, rfl⟩ := Prod.mk.inj (Option.some.inj h)
  exact ⟨rfl, rfl, opp_small nz_small sz_small ⟨a0, a1, e_small, e_small⟩⟩
theorem raP_small {l : List UInt8} {o : Opp} {r : List UInt8} (h : raP l = some (o, r)) : o.rng ∧ o.small ∧ o.svc.tags.length ≤ 255 ∧ o.node.addr.size ≤ 255 := by
 unfold raP at h
 split at h
 ·cases h
 split at h
 ·split at h
  ·cases h
  split at h
  ·cases h
  ·obtain ⟨_, h2, h3⟩ := rbP_small h
   have hu := unbig_le ((l.drop 2).take 8) 8 (by simp; omega)
   exact ⟨⟨by rw [h2]; omega, by rw [h2]; omega⟩, h3⟩
 split at h
 ·cases h
 ·obtain ⟨_, h2, h3⟩ := rbP_small h
  exact ⟨⟨by rw [h2]; decide, by rw [h2]; decide⟩, h3⟩
end Go.Proofs.YtbhhjnbomhkdmaaGreatDoor

/- Layer 13 (journal): the document's Decode of bytes that are refused ahead of the sum (by gen_jrdec.py). -/
namespace Go.Proofs.YtbhhjnbomhkdmaaGreatDoor
open Go.RowKit
set_option linter.unusedVariables false

theorem bat_piece {w : World} {xb xo : Nat} {l : List UInt8} (h : BAt w (some ⟨xb, xo, none⟩) l) (i k : Nat) (hk : i + k ≤ l.length) : BAt w (some ⟨xb, xo + i, none⟩) ((l.drop i).take k) := by
 intro hne
 refine ⟨xb, xo + i, rfl, fun j u hj => ?_⟩
 have hjl : j < ((l.drop i).take k).length := by
  have := (List.getElem?_eq_some_iff.1 hj).1
  rw [bs_length] at this
  exact this
 have hjk : j < k := by rw [List.length_take] at hjl; omega
 obtain ⟨b1, o1, e1, hc1⟩ := h.at (i + j) (by omega)
 obtain ⟨rfl, rfl⟩ : xb = b1 ∧ xo = o1 := by simpa using e1
 have h1 : ((l.drop i).take k)[j]? = l[i + j]? := by rw [List.getElem?_take_of_lt hjk, List.getElem?_drop]
 rw [List.getElem?_eq_getElem hjl, List.getElem?_eq_getElem (by omega)] at h1
 have h2 := Option.some.inj h1
 have hu : u = .int .u8 ((((l.drop i).take k)[j]).toNat : Int) := by
  have h3 : (bs ((l.drop i).take k))[j]? = some (.int .u8 ((((l.drop i).take k)[j]).toNat : Int)) := by
   unfold bs
   rw [List.getElem?_map, List.getElem?_eq_getElem hjl]
   rfl
  exact Option.some.inj (hj.symm.trans h3)
 rw [hu, h2, ← hc1, Nat.add_assoc]

set_option maxRecDepth 100000 in
set_option maxHeartbeats 4000000 in
theorem rdecode_short (ao : Option Addr) (cap : Nat) (l : List UInt8) (w : World) (hl : l.length ≤ 140737488355328) (hcap : l.length ≤ cap) (hcm : cap ≤ maxLen) (h : BAt w ao l) (hsh : l.length = 0 ∨ l.getD 0 0 ≠ 77 ∨ l.length < 5 ∨ 131072 < lenB l ∨ l.length < 9 + lenB l) :
  Calls Tryz.prog 6 #[.slice ao l.length cap] w fun e w' => e = .returned (.tuple #[.agg #[.int .u64 0, .slice none 0 0], .int .i64 0, .int .i64 (payE l)]) ∧ Below w.heap.size w w' := by
 obtain ⟨wx, Hwx⟩ : ∃ x, Hid (x = w.alloc (.cells #[.int .u64 0, .slice none 0 0] 27)) := ⟨_, rfl⟩
 have HB : Hid (Below w.heap.size w wx) := by rw [Hwx.out]; exact below_new w _
 have HX : Hid (Blk wx w.heap.size #[.int .u64 0, .slice none 0 0] 27) := by rw [Hwx.out]; exact Blk.new _ _ _
 have HT : Hid (BAt wx ao l) := h.below HB.out
 obtain ⟨n, Hn⟩ : ∃ n, Hid (n = l.length) := ⟨_, rfl⟩
 obtain ⟨pe, Hpe⟩ : ∃ x, Hid (x = payE l) := ⟨_, rfl⟩
 have HPE : Hid (pe = payE l) := Hpe
 rw [← Hpe.out]
 clear h
 obtain ⟨gx, Hgx⟩ : ∃ gx, Hid (gx = w.heap.size) := ⟨_, rfl⟩
 have HX0 : Hid (Blk wx gx #[.int .u64 0, .slice none 0 0] 27) := by rw [Hgx.out]; exact HX.out
 have hgw : w.heap.size ≤ gx := Nat.le_of_eq Hgx.out.symm
 by_cases h0 : l.length = 0
 ·have HE : Hid (pe = 131) := by show _ = _; rw [Hpe.out]; unfold payE; rw [if_pos h0]
  rw [← Hn.out] at *
  have y0 := HX0.out.cell 0 rfl
  have y1 := HX0.out.cell 1 rfl
  have f0 := HX0.out.open 0
  have f1 := HX0.out.open 1
  obtain ⟨w5, Hw5⟩ : ∃ x, Hid (x = putC wx gx 0 [.int .u64 0, .slice none 0 0]) := ⟨_, rfl⟩
  have HY5 : Hid (Blk w5 gx #[.int .u64 0, .slice none 0 0] 27) := by rw [Hw5.out]; exact putC_all HX0.out rfl
  have HB5 : Hid (Below w.heap.size w w5) := by rw [Hw5.out]; exact putC_below _ _ _ HB.out hgw
  have HLd : Hid ((loadVar 27 ⟨gx, 0, none⟩).run Tryz.prog w5 = .ok (.agg #[.int .u64 0, .slice none 0 0]) w5) := load_ent HY5.out rfl
  go_enter Tryz.func6, Tryz.ntmps6
  go_upto_region 1 with fail
  rw [← Hwx.out, ← Hgx.out]
  go_wp2
  change bodyPost _ _ _ _ _ (putC wx gx 0 [.int .u64 0, .slice none 0 0])
  rw [← Hw5.out]
  exact ret_box3 (g := gx) (w := w5) rfl rfl rfl rfl rfl HLd.out ⟨by rw [HE.out]; rfl, HB5.out⟩
 by_cases h1 : l.getD 0 0 ≠ 77
 ·have HE : Hid (pe = 132) := by show _ = _; rw [Hpe.out]; unfold payE; rw [if_neg h0, if_pos h1]
  obtain ⟨xb, xo, rfl, hc⟩ := HT.out.at 0 (by omega)
  have hg0 : l.getD 0 0 = l[0]'(by omega) := by rw [List.getD, List.getElem?_eq_getElem (by omega)]; rfl
  obtain ⟨c0, Hc0⟩ : ∃ c : UInt8, Hid (c = l.getD 0 0) := ⟨_, rfl⟩
  rw [← hg0, ← Hc0.out] at hc
  rw [← Hc0.out] at h1
  have hq : ((c0.toNat : Int) != 77) = true := by
   simp
   intro e
   exact h1 (UInt8.toNat_inj.1 (by simpa using (by omega : c0.toNat = 77)))
  have hcl := byte_le c0
  have hc' : wx.cell? ⟨xb, xo, none⟩ = some (.int .u8 (c0.toNat : Int)) := by simpa using hc
  clear hg0 Hc0 hc
  rw [← Hn.out] at *
  have y0 := HX0.out.cell 0 rfl
  have y1 := HX0.out.cell 1 rfl
  have f0 := HX0.out.open 0
  have f1 := HX0.out.open 1
  obtain ⟨w5, Hw5⟩ : ∃ x, Hid (x = putC wx gx 0 [.int .u64 0, .slice none 0 0]) := ⟨_, rfl⟩
  have HY5 : Hid (Blk w5 gx #[.int .u64 0, .slice none 0 0] 27) := by rw [Hw5.out]; exact putC_all HX0.out rfl
  have HB5 : Hid (Below w.heap.size w w5) := by rw [Hw5.out]; exact putC_below _ _ _ HB.out hgw
  have HLd : Hid ((loadVar 27 ⟨gx, 0, none⟩).run Tryz.prog w5 = .ok (.agg #[.int .u64 0, .slice none 0 0]) w5) := load_ent HY5.out rfl
  go_enter Tryz.func6, Tryz.ntmps6
  go_upto_region 1 with fail
  rw [← Hwx.out, ← Hgx.out]
  go_wp2
  change bodyPost _ _ _ _ _ (putC wx gx 0 [.int .u64 0, .slice none 0 0])
  rw [← Hw5.out]
  exact ret_box3 (g := gx) (w := w5) rfl rfl rfl rfl rfl HLd.out ⟨by rw [HE.out]; rfl, HB5.out⟩
 have h1' : l.getD 0 0 = 77 := Decidable.not_not.1 h1
 obtain ⟨xb, xo, rfl, hc⟩ := HT.out.at 0 (by omega)
 have hg0 : l.getD 0 0 = l[0]'(by omega) := by rw [List.getD, List.getElem?_eq_getElem (by omega)]; rfl
 rw [← hg0, h1'] at hc
 have hc' : wx.cell? ⟨xb, xo, none⟩ = some (.int .u8 77) := by simpa using hc
 clear hc hg0
 by_cases h2 : l.length < 5
 ·have HE : Hid (pe = 131) := by show _ = _; rw [Hpe.out]; unfold payE; rw [if_neg h0, if_neg h1, if_pos h2]
  rw [← Hn.out] at *
  have y0 := HX0.out.cell 0 rfl
  have y1 := HX0.out.cell 1 rfl
  have f0 := HX0.out.open 0
  have f1 := HX0.out.open 1
  obtain ⟨w5, Hw5⟩ : ∃ x, Hid (x = putC wx gx 0 [.int .u64 0, .slice none 0 0]) := ⟨_, rfl⟩
  have HY5 : Hid (Blk w5 gx #[.int .u64 0, .slice none 0 0] 27) := by rw [Hw5.out]; exact putC_all HX0.out rfl
  have HB5 : Hid (Below w.heap.size w w5) := by rw [Hw5.out]; exact putC_below _ _ _ HB.out hgw
  have HLd : Hid ((loadVar 27 ⟨gx, 0, none⟩).run Tryz.prog w5 = .ok (.agg #[.int .u64 0, .slice none 0 0]) w5) := load_ent HY5.out rfl
  go_enter Tryz.func6, Tryz.ntmps6
  go_upto_region 1 with fail
  rw [← Hwx.out, ← Hgx.out]
  go_wp2
  change bodyPost _ _ _ _ _ (putC wx gx 0 [.int .u64 0, .slice none 0 0])
  rw [← Hw5.out]
  exact ret_box3 (g := gx) (w := w5) rfl rfl rfl rfl rfl HLd.out ⟨by rw [HE.out]; rfl, HB5.out⟩
 have HNm := rnumber_calls (some ⟨xb, xo + 1, none⟩) (cap - 1) ((l.drop 1).take 4) wx (by rw [List.length_take]; omega) (bat_piece HT.out 1 4 (by omega))
 have hl4 : ((l.drop 1).take 4).length = 4 := by rw [List.length_take, List.length_drop]; omega
 rw [hl4] at HNm
 obtain ⟨nb, Hnb⟩ : ∃ nb, Hid (nb = lenB l) := ⟨_, rfl⟩
 have hnb : unbig ((l.drop 1).take 4) = nb := Hnb.out.symm
 rw [hnb] at HNm
 clear hnb hl4
 have hcap5 : 5 ≤ cap := by omega
 by_cases h3 : 131072 < lenB l
 ·have HE : Hid (pe = 132) := by show _ = _; rw [Hpe.out]; unfold payE; rw [if_neg h0, if_neg h1, if_neg h2, if_pos h3]
  rw [← Hnb.out] at h3
  have hb3 : (131072 : Int) < (nb : Int) := by omega
  rw [← Hn.out] at *
  have y0 := HX0.out.cell 0 rfl
  have y1 := HX0.out.cell 1 rfl
  have f0 := HX0.out.open 0
  have f1 := HX0.out.open 1
  obtain ⟨w5, Hw5⟩ : ∃ x, Hid (x = putC wx gx 0 [.int .u64 0, .slice none 0 0]) := ⟨_, rfl⟩
  have HY5 : Hid (Blk w5 gx #[.int .u64 0, .slice none 0 0] 27) := by rw [Hw5.out]; exact putC_all HX0.out rfl
  have HB5 : Hid (Below w.heap.size w w5) := by rw [Hw5.out]; exact putC_below _ _ _ HB.out hgw
  have HLd : Hid ((loadVar 27 ⟨gx, 0, none⟩).run Tryz.prog w5 = .ok (.agg #[.int .u64 0, .slice none 0 0]) w5) := load_ent HY5.out rfl
  go_enter Tryz.func6, Tryz.ntmps6
  go_upto_region 1 with fail
  rw [← Hwx.out, ← Hgx.out]
  go_wp2_with fail
  refine HNm.mono ?_
  clear HNm
  rintro e wy ⟨rfl, hwy⟩
  have hwy' := hwy.symm
  subst hwy'
  clear hwy
  go_wp2
  change bodyPost _ _ _ _ _ (putC wx gx 0 [.int .u64 0, .slice none 0 0])
  rw [← Hw5.out]
  exact ret_box3 (g := gx) (w := w5) rfl rfl rfl rfl rfl HLd.out ⟨by rw [HE.out]; rfl, HB5.out⟩
 have h4 : l.length - 5 < lenB l + 4 := by
  rcases hsh with h | h | h | h | h
  ·exact absurd h h0
  ·exact absurd h h1
  ·exact absurd h h2
  ·exact absurd h h3
  ·omega
 have HE : Hid (pe = 131) := by show _ = _; rw [Hpe.out]; unfold payE; rw [if_neg h0, if_neg h1, if_neg h2, if_neg h3, if_pos h4]
 rw [← Hnb.out] at h3 h4
 have hb3 : ¬ ((131072 : Int) < (nb : Int)) := by omega
 have hb4 : (l.length : Int) < 9 + (nb : Int) := by omega
 rw [← Hn.out] at *
 have y0 := HX0.out.cell 0 rfl
 have y1 := HX0.out.cell 1 rfl
 have f0 := HX0.out.open 0
 have f1 := HX0.out.open 1
 obtain ⟨w5, Hw5⟩ : ∃ x, Hid (x = putC wx gx 0 [.int .u64 0, .slice none 0 0]) := ⟨_, rfl⟩
 have HY5 : Hid (Blk w5 gx #[.int .u64 0, .slice none 0 0] 27) := by rw [Hw5.out]; exact putC_all HX0.out rfl
 have HB5 : Hid (Below w.heap.size w w5) := by rw [Hw5.out]; exact putC_below _ _ _ HB.out hgw
 have HLd : Hid ((loadVar 27 ⟨gx, 0, none⟩).run Tryz.prog w5 = .ok (.agg #[.int .u64 0, .slice none 0 0]) w5) := load_ent HY5.out rfl
 go_enter Tryz.func6, Tryz.ntmps6
 go_upto_region 1 with fail
 rw [← Hwx.out, ← Hgx.out]
 go_wp2_with fail
 refine HNm.mono ?_
 clear HNm
 rintro e wy ⟨rfl, hwy⟩
 have hwy' := hwy.symm
 subst hwy'
 clear hwy
 go_wp2
 change bodyPost _ _ _ _ _ (putC wx gx 0 [.int .u64 0, .slice none 0 0])
 rw [← Hw5.out]
 exact ret_box3 (g := gx) (w := w5) rfl rfl rfl rfl rfl HLd.out ⟨by rw [HE.out]; rfl, HB5.out⟩
end Go.Proofs.YtbhhjnbomhkdmaaGreatDoor
