import Derived.Test.YtieonnnlhhdfpaaGreatDoorJNum
import Derived.Test.YtieonnnlhhdfpaaGreatDoorJAppS
import Derived.Laws.BytesArg
import Derived.Test.YtieonnnlhhdfpaaGreatDoorSBase
import Derived.Laws.BitsAllLaws
import Derived.Deep.WholeRow
import Derived.Laws.CopyOwn
import Derived.Deep.MidRow
/- Layer 13 (journal): texts as bytes: writeTexts. -/
namespace Go.Proofs.YtieonnnlhhdfpaaGreatDoor
open Go.RowKit
set_option linter.unusedVariables false

def txtB (s : ByteArray) : List UInt8 := byteOf s.size :: s.data.toList
def txtsB (l : List ByteArray) : List UInt8 := l.flatMap txtB
theorem txtB_length (s : ByteArray) : (txtB s).length = s.size + 1 := by simp [txtB]
theorem txtsB_snoc (l : List ByteArray) (s : ByteArray) : txtsB (l ++ [s]) = txtsB l ++ txtB s := by simp [txtsB]
theorem txtsB_append (l m : List ByteArray) : txtsB (l ++ m) = txtsB l ++ txtsB m := by simp [txtsB]
theorem txtsB_take_le : ∀ (l : List ByteArray) (k N : Nat), (∀ x ∈ l, x.size ≤ N) → (txtsB (l.take k)).length ≤ k * (N + 1)
  | [], k, N, _ => by simp [txtsB]
  | x :: l, 0, N, _ => by simp [txtsB]
  | x :: l, k + 1, N, h => by
    have ih := txtsB_take_le l k N (fun y hy => h y (List.mem_cons_of_mem _ hy))
    have h1 := h x (List.mem_cons_self ..)
    have e : txtsB ((x :: l).take (k + 1)) = txtB x ++ txtsB (l.take k) := by simp [txtsB]
    rw [e, List.length_append, txtB_length, Nat.succ_mul]
    omega

/-- Cells that lie apart from the slice v's own block. -/
def Apt (w : World) (v : Value) (ta : Option Addr) (cs : List Value) : Prop := CellsAt w ta cs ∧ (cs ≠ [] → ∀ k, v.ownBlock = some k → ∀ b off, ta = some ⟨b, off, none⟩ → b ≠ k)
theorem Apt.grew {w w' : World} {v v' : Value} {ta : Option Addr} {cs : List Value} (h : Apt w v ta cs) (hg : Grew w w' v v') : Apt w' v' ta cs := by
  constructor
  · intro hne
    obtain ⟨b, off, ha, hc⟩ := h.1 hne
    exact ⟨b, off, ha, fun j u hj => hg.cell (hc j u hj) fun e => h.2 hne b e.symm b off ha rfl⟩
  · intro hne k hk b off ha e
    subst e
    rcases hg.place b hk with h1 | h1
    · exact h.2 hne b h1 b off ha rfl
    · obtain ⟨b', off', ha', hc⟩ := h.1 hne
      rw [ha] at ha'
      injection ha' with ha'
      injection ha' with e1 e2
      obtain ⟨u, r, rfl⟩ := List.exists_cons_of_ne_nil hne
      have := World.block_lt_of_cell? w _ (hc 0 u rfl)
      simp only at this
      omega
theorem Apt.alloc {w : World} {v : Value} {ta : Option Addr} {cs : List Value} (h : Apt w v ta cs) (o : Obj) : Apt (w.alloc o) v ta cs := ⟨h.1.below ((Below.refl _ _).alloc (Nat.le_refl _) o), h.2⟩
theorem Apt.base {w w0 : World} {B : Nat} {v : Value} {l : List UInt8} {ta : Option Addr} {cs : List Value} (ho : Own w B v l) (hB : w0.heap.size ≤ B) (hb : Below w0.heap.size w0 w) (hc : CellsAt w0 ta cs) : Apt w v ta cs := by
  refine ⟨hc.below hb, fun hne k hk b off ha e => ?_⟩
  subst e
  have h1 := (ho.lt b hk).1
  obtain ⟨b', off', ha', hc⟩ := hc hne
  rw [ha] at ha'
  injection ha' with ha'
  injection ha' with e1 e2
  obtain ⟨u, r, rfl⟩ := List.exists_cons_of_ne_nil hne
  have := World.block_lt_of_cell? w0 _ (hc 0 u rfl)
  simp only at this
  omega

set_option maxRecDepth 100000 in
set_option maxHeartbeats 1000000 in
theorem writeTexts_calls (B : Nat) (v : Value) (l : List UInt8) (ta : Option Addr) (tc : Nat) (ts : List ByteArray) (w : World) (hown : Own w B v l) (hB : B ≤ w.heap.size) (hl : l.length ≤ 70368744177664) (hn : ts.length ≤ 1024) (ht : ∀ x ∈ ts, x.size ≤ 1048576) (hap : Apt w v ta (ts.map Value.string)) :
    Calls Tryz.prog 61 #[v, .slice ta ts.length tc] w fun e w' => ∃ v', e = .returned v' ∧ Own w' B v' (l ++ txtsB ts) ∧ Grew w w' v v' := by
  go_enter Tryz.func61, Tryz.ntmps61
  go_wp2
  go_loopw [0, 9] (fun x i wr => ∃ k : Nat, k ≤ ts.length ∧ i = .int .i64 k ∧ Own wr B x (l ++ txtsB (ts.take k)) ∧ Grew w wr v x) (fun _ i _ => ts.length - (intOf i).toNat)
  case atStart => exact ⟨0, Nat.zero_le _, rfl, by simpa [txtsB] using hown, Grew.refl _ _⟩
  case round =>
    obtain ⟨k, hk, rfl, ho, hg⟩ := hrel
    have hsz := hg.size
    by_cases hlt : k < ts.length
    · have hle : (l ++ txtsB (ts.take k)).length ≤ 70368744177664 + 1024 * 1048577 := by
        have := txtsB_take_le ts k 1048576 ht
        simp only [List.length_append]
        have : k * 1048577 ≤ 1024 * 1048577 := Nat.mul_le_mul_right _ (by omega)
        omega
      obtain ⟨s, Hs⟩ : ∃ s, Hid (s = ts[k]'hlt) := ⟨_, rfl⟩
      have hss : s.size ≤ 1048576 := by rw [Hs.out]; exact ht _ (List.getElem_mem hlt)
      obtain ⟨b, off, rfl, hcell⟩ := (hap.grew hg).1.str k hlt
      rw [← Hs.out] at hcell
      have HT : Hid (l ++ txtsB (ts.take (k + 1)) = l ++ txtsB (ts.take k) ++ [byteOf s.size] ++ s.data.toList) := by
        show _ = _
        rw [list_take_snoc ts k hlt, txtsB_snoc, ← Hs.out]
        simp [txtB]
      have HN : Hid (bs [byteOf s.size] = [.int .u8 ((s.size : Int) % 256)]) := by simp [bs, byteOf_val, Hid]
      clear Hs
      obtain ⟨p, Hp⟩ : ∃ p, Hid (p = l ++ txtsB (ts.take k)) := ⟨_, rfl⟩
      rw [← Hp.out] at ho hle HT
      clear Hp
      go_wp2_with (at_builtin; refine append_bytes _ rfl (.tmp 13) (.tmp 17) rfl B _ _ rfl (ho.alloc _) ⟨wr.heap.size, 0, none⟩ 1 1 [byteOf s.size] rfl rfl (by intro j u hj; rw [HN.out] at hj; exact cells_new _ _ _ j u hj) (by omega) (by simp; omega) ?_)
      intro v1 w1 ho1 hg1
      have hg2 := hg.trans hg1.ofAlloc
      have hsz2 := hg2.size
      clear ho hg hg1 hcell
      have hle1 : (p ++ [byteOf s.size]).length ≤ 70368744177664 + 1024 * 1048577 + 1 := by simp only [List.length_append, List.length_cons, List.length_nil]; omega
      obtain ⟨p1, Hp1⟩ : ∃ p1, Hid (p1 = p ++ [byteOf s.size]) := ⟨_, rfl⟩
      rw [← Hp1.out] at ho1 hle1 HT
      clear Hp1
      go_wp2_with (at_builtin; refine append_text _ rfl (.tmp 19) (.tmp 20) rfl B _ _ rfl ho1 s rfl (by omega) (by omega) ?_)
      intro v2 w2 ho2 hg3
      have hg4 := hg2.trans hg3
      clear ho1 hg2 hg3
      go_wp2
      go_roundw
      case rel => exact ⟨k + 1, by omega, by go_num, by rw [HT.out]; exact ho2, hg4⟩
      case measure => simp [intOf]; omega
    · obtain rfl : k = ts.length := by omega
      go_wp2
      go_ret
      exact ⟨_, rfl, by rw [List.take_of_length_le (by omega)] at ho; exact ho, hg⟩
theorem writeTexts_lit (B : Nat) (v : Value) (l : List UInt8) (ts : List ByteArray) (g n c : Nat) (cs : Array Value) (W : World) (hown : Own W B v l) (hB : B ≤ W.heap.size) (hl : l.length ≤ 70368744177664) (hg : g = W.heap.size) (hn : ts.length = n) (hcs : cs = (ts.map Value.string).toArray) (hk : n ≤ 1024) (ht : ∀ x ∈ ts, x.size ≤ 1048576) :
    Calls Tryz.prog 61 #[v, .slice (some ⟨g, 0, none⟩) n c] (W.alloc (.cells cs 9)) fun e w' => ∃ v', e = .returned v' ∧ Own w' B v' (l ++ txtsB ts) ∧ Grew W w' v v' := by
  subst hg hn hcs
  refine (writeTexts_calls B v l (some ⟨W.heap.size, 0, none⟩) c ts _ (hown.alloc _) (by simp; omega) hl hk ht ⟨?_, ?_⟩).mono ?_
  · intro hne
    refine ⟨W.heap.size, 0, rfl, fun j u hj => ?_⟩
    rw [Nat.zero_add, World.cell?_alloc_mark]
    simpa using hj
  · intro _ k hk b off e e2
    injection e with e
    injection e with e1
    subst e1 e2
    have := (hown.lt _ hk).2
    omega
  · rintro e w' ⟨v', rfl, h1, h2⟩
    exact ⟨v', rfl, h1, h2.ofAlloc⟩
end Go.Proofs.YtieonnnlhhdfpaaGreatDoor

/- Layer 13 (journal): the sum of bytes, plain. -/
namespace Go.Proofs.YtieonnnlhhdfpaaGreatDoor
open Go.RowKit
set_option linter.unusedVariables false

def crcBit (s : Nat) : Nat := if s % 2 = 1 then (s / 2) ^^^ 3988292384 else s / 2
def crcN : Nat → Nat → Nat
  | 0, s => s
  | k + 1, s => crcBit (crcN k s)
def crcByte (s : Nat) (c : UInt8) : Nat := crcN 8 (s ^^^ c.toNat)
def crcs (s : Nat) (l : List UInt8) : Nat := l.foldl crcByte s
def sumB (l : List UInt8) : Nat := 4294967295 - crcs 4294967295 l

theorem crcBit_lt {s : Nat} (h : s < 4294967296) : crcBit s < 4294967296 := by
  unfold crcBit
  split
  · have := Nat.xor_lt_two_pow (n := 32) (x := s / 2) (y := 3988292384) (by omega) (by omega)
    omega
  · omega
theorem crcN_lt {s : Nat} (h : s < 4294967296) : ∀ k, crcN k s < 4294967296
  | 0 => h
  | k + 1 => crcBit_lt (crcN_lt h k)
theorem crcX_lt {s : Nat} (h : s < 4294967296) (c : UInt8) : s ^^^ c.toNat < 4294967296 := by
  have h2 := c.toNat_lt
  have := Nat.xor_lt_two_pow (n := 32) (x := s) (y := c.toNat) (by omega) (by omega)
  omega
theorem crcByte_lt {s : Nat} (h : s < 4294967296) (c : UInt8) : crcByte s c < 4294967296 := crcN_lt (crcX_lt h c) 8
theorem crcs_lt : ∀ (l : List UInt8) {s : Nat}, s < 4294967296 → crcs s l < 4294967296
  | [], _, h => h
  | c :: l, _, h => crcs_lt l (crcByte_lt h c)
theorem crcs_snoc (s : Nat) (l : List UInt8) (c : UInt8) : crcs s (l ++ [c]) = crcByte (crcs s l) c := by simp [crcs]
theorem crcs_append (s : Nat) (l m : List UInt8) : crcs s (l ++ m) = crcs (crcs s l) m := by simp [crcs]
theorem sumB_lt (l : List UInt8) : sumB l < 4294967296 := by unfold sumB; omega

/-- The bit that is handed on tells which way was gone. -/
theorem crcBit_top {s : Nat} (h : s < 4294967296) : (crcBit s).testBit 31 = decide (s % 2 = 1) := by
  have h1 : (s / 2).testBit 31 = false := Nat.testBit_lt_two_pow (by omega)
  unfold crcBit
  split
  · rename_i h2
    rw [Nat.testBit_xor, h1, h2]
    decide
  · rename_i h2
    rw [h1]
    simp [h2]
theorem xor_right_inj {a b c : Nat} (h : a ^^^ c = b ^^^ c) : a = b := by
  have := congrArg (· ^^^ c) h
  simpa [Nat.xor_assoc] using this
theorem crcBit_inj {s t : Nat} (hs : s < 4294967296) (ht : t < 4294967296) (h : crcBit s = crcBit t) : s = t := by
  have h1 : decide (s % 2 = 1) = decide (t % 2 = 1) := by rw [← crcBit_top hs, ← crcBit_top ht, h]
  have h2 : s % 2 = 1 ↔ t % 2 = 1 := by simpa using h1
  unfold crcBit at h
  by_cases hc : s % 2 = 1
  · rw [if_pos hc, if_pos (h2.1 hc)] at h
    have := xor_right_inj h
    have := h2.1 hc
    omega
  · rw [if_neg hc, if_neg (fun e => hc (h2.2 e))] at h
    have : ¬ t % 2 = 1 := fun e => hc (h2.2 e)
    omega
theorem crcN_inj {s t : Nat} (hs : s < 4294967296) (ht : t < 4294967296) : ∀ k, crcN k s = crcN k t → s = t
  | 0, h => h
  | k + 1, h => crcN_inj hs ht k (crcBit_inj (crcN_lt hs k) (crcN_lt ht k) h)
theorem crcByte_inj {s t : Nat} (hs : s < 4294967296) (ht : t < 4294967296) {c : UInt8} (h : crcByte s c = crcByte t c) : s = t :=
  xor_right_inj (crcN_inj (crcX_lt hs c) (crcX_lt ht c) 8 h)
theorem crcByte_inj2 {s : Nat} (hs : s < 4294967296) {c d : UInt8} (h : crcByte s c = crcByte s d) : c = d := by
  have := crcN_inj (crcX_lt hs c) (crcX_lt hs d) 8 h
  rw [Nat.xor_comm s, Nat.xor_comm s] at this
  exact UInt8.toNat_inj.1 (xor_right_inj this)
theorem crcs_inj : ∀ (l : List UInt8) {s t : Nat}, s < 4294967296 → t < 4294967296 → crcs s l = crcs t l → s = t
  | [], _, _, _, _, h => h
  | c :: l, _, _, hs, ht, h => crcByte_inj hs ht (crcs_inj l (crcByte_lt hs c) (crcByte_lt ht c) h)
/-- One byte changed is another sum. -/
theorem sumB_set {l : List UInt8} {i : Nat} {c : UInt8} (h : i < l.length) (hc : l[i] ≠ c) : sumB (l.set i c) ≠ sumB l := by
  intro e
  have h1 := crcs_lt l (s := 4294967295) (by omega)
  have h2 := crcs_lt (l.set i c) (s := 4294967295) (by omega)
  have e1 : crcs 4294967295 (l.set i c) = crcs 4294967295 l := by unfold sumB at e; omega
  have e2 : l.set i c = l.take i ++ c :: l.drop (i + 1) := List.set_eq_take_append_cons_drop.trans (if_pos h)
  have e3 : l = l.take i ++ l[i] :: l.drop (i + 1) := by rw [← List.drop_eq_getElem_cons h, List.take_append_drop]
  rw [e2] at e1
  rw [show crcs 4294967295 l = crcs 4294967295 (l.take i ++ l[i] :: l.drop (i + 1)) from congrArg _ e3] at e1
  rw [crcs_append, crcs_append] at e1
  have hp := crcs_lt (l.take i) (s := 4294967295) (by omega)
  have e4 := crcs_inj (l.drop (i + 1)) (crcByte_lt hp c) (crcByte_lt hp l[i]) e1
  exact hc (crcByte_inj2 hp e4).symm

/-- The program's step. -/
theorem crc_step {t : Nat} (h : t < 4294967296) : bits .xor .u32 ((t : Int) / 2) (3988292384 * bits .and .u32 (t : Int) 1 % 4294967296) = (crcBit t : Int) := by
  have ha : bits .and .u32 (t : Int) 1 = ((t % 2 : Nat) : Int) := by
    have := u32_and_nat t 1 (by omega) (by omega)
    rw [Nat.and_one_is_mod] at this
    exact this
  rw [ha]
  unfold crcBit
  rcases Nat.mod_two_eq_zero_or_one t with h2 | h2
  · rw [h2]
    rw [if_neg (by decide)]
    have e : 3988292384 * ((0 : Nat) : Int) % 4294967296 = ((0 : Nat) : Int) := by decide
    rw [e]
    have := u32_xor_nat (t / 2) 0 (by omega) (by omega)
    rw [Nat.xor_zero] at this
    exact this
  · rw [h2, if_pos rfl]
    have e : 3988292384 * ((1 : Nat) : Int) % 4294967296 = ((3988292384 : Nat) : Int) := by decide
    rw [e]
    exact u32_xor_nat (t / 2) 3988292384 (by omega) (by omega)
theorem crc_in {t : Nat} (h : t < 4294967296) (c : UInt8) : bits .xor .u32 (t : Int) (c.toNat : Int) = ((t ^^^ c.toNat : Nat) : Int) :=
  u32_xor_nat t c.toNat h (by have := c.toNat_lt; omega)
theorem ones_xor {t : Nat} (h : t < 4294967296) : 4294967295 ^^^ t = 4294967295 - t := by
  have h1 := congrArg BitVec.toNat (BitVec.allOnes_xor (x := BitVec.ofNat 32 t))
  rw [BitVec.toNat_xor, BitVec.toNat_not, BitVec.toNat_allOnes, BitVec.toNat_ofNat, Nat.mod_eq_of_lt h] at h1
  exact h1
theorem crc_out {t : Nat} (h : t < 4294967296) : bits .xor .u32 IntKind.u32.max (t : Int) = ((4294967295 - t : Nat) : Int) := by
  have := u32_xor_nat 4294967295 t (by omega) h
  rw [ones_xor h] at this
  exact this
/-- The document's step: s and the rest of the byte apart. -/
theorem crc_ref {s c : Nat} : (if s % 2 ≠ c % 2 then (s / 2) ^^^ 3988292384 else s / 2) ^^^ (c / 2) = crcBit (s ^^^ c) := by
  unfold crcBit
  have h1 : (s ^^^ c) / 2 = s / 2 ^^^ c / 2 := Nat.xor_div_two
  have h2 : (s ^^^ c) % 2 = 1 ↔ s % 2 ≠ c % 2 := by
    rw [Nat.xor_mod_two_eq_one]
    omega
  rw [h1]
  by_cases h : s % 2 ≠ c % 2
  · rw [if_pos h, if_pos (h2.2 h)]
    rw [Nat.xor_assoc, Nat.xor_comm 3988292384, ← Nat.xor_assoc]
  · rw [if_neg h, if_neg (fun e => h (h2.1 e))]
end Go.Proofs.YtieonnnlhhdfpaaGreatDoor

/- Layer 13 (journal): the bytes of operations and entries, plain; what is sound. -/
namespace Go.Proofs.YtieonnnlhhdfpaaGreatDoor
open Go.RowKit
set_option linter.unusedVariables false

def casB (o : Opp) : List UInt8 := if o.cas then 1 :: big 8 o.want else [0]
def svcB (s : Sp) : List UInt8 := txtsB [s.node, s.id, s.name] ++ big 2 s.port ++ [byteOf s.tags.length] ++ txtsB s.tags
def chkB (c : Ck) : List UInt8 := txtsB [c.node, c.id, c.service] ++ [byteOf c.status] ++ txtsB [c.note]
def bodyB (o : Opp) : List UInt8 :=
  if o.kind = 1 then txtsB [o.node.name, o.node.addr] else if o.kind = 2 then svcB o.svc else if o.kind = 3 then chkB o.chk else
  if o.kind = 4 then txtsB [o.node.name] else if o.kind = 5 then txtsB [o.svc.node, o.svc.id] else txtsB [o.chk.node, o.chk.id]
def opB (o : Opp) : List UInt8 := byteOf o.kind :: casB o ++ bodyB o
def opsB (os : List Opp) : List UInt8 := os.flatMap opB
def payB (i : Int) (os : List Opp) : List UInt8 := big 8 i ++ [byteOf os.length] ++ opsB os
def frameB (p : List UInt8) : List UInt8 := [77] ++ big 4 p.length ++ p ++ big 4 (sumB p)

def sameN (a b : Nd) : Bool := decide (a.name = b.name) && decide (a.addr = b.addr) && (a.made == b.made) && (a.changed == b.changed)
def sameS (a b : Sp) : Bool := decide (a.node = b.node) && decide (a.id = b.id) && decide (a.name = b.name) && (a.port == b.port) && decide (a.tags = b.tags) && (a.made == b.made) && (a.changed == b.changed)
def sameC (a b : Ck) : Bool := decide (a.node = b.node) && decide (a.id = b.id) && decide (a.service = b.service) && (a.status == b.status) && decide (a.note = b.note) && (a.made == b.made) && (a.changed == b.changed)
def sameO (a b : Opp) : Bool := (a.kind == b.kind) && sameN a.node b.node && sameS a.svc b.svc && sameC a.chk b.chk && (a.cas == b.cas) && (a.want == b.want)
theorem sameN_iff (a b : Nd) : sameN a b = true ↔ a = b := by
  obtain ⟨a1, a2, a3, a4⟩ := a
  obtain ⟨b1, b2, b3, b4⟩ := b
  simp [sameN, and_assoc]
theorem sameS_iff (a b : Sp) : sameS a b = true ↔ a = b := by
  obtain ⟨a1, a2, a3, a4, a5, a6, a7⟩ := a
  obtain ⟨b1, b2, b3, b4, b5, b6, b7⟩ := b
  simp [sameS, and_assoc]
theorem sameC_iff (a b : Ck) : sameC a b = true ↔ a = b := by
  obtain ⟨a1, a2, a3, a4, a5, a6, a7⟩ := a
  obtain ⟨b1, b2, b3, b4, b5, b6, b7⟩ := b
  simp [sameC, and_assoc]
theorem sameO_iff (a b : Opp) : sameO a b = true ↔ a = b := by
  obtain ⟨a1, a2, a3, a4, a5, a6⟩ := a
  obtain ⟨b1, b2, b3, b4, b5, b6⟩ := b
  simp [sameO, and_assoc, sameN_iff, sameS_iff, sameC_iff]
/-- An operation that is its own normal form. -/
def sndB (o : Opp) : Bool := decide (oppE o = 0) && sameO o (oppF o)
theorem sndB_iff (o : Opp) : sndB o = true ↔ oppE o = 0 ∧ o = oppF o := by simp [sndB, sameO_iff]
/-- An entry that is sound. -/
def soundB (os : List Opp) : Bool := decide (1 ≤ os.length) && decide (os.length ≤ 64) && os.all sndB

theorem lab_le {s : ByteArray} : (labT s).size ≤ 63 := by
  unfold labT
  split
  · rename_i h
    have := (labB_all h).2.1
    rw [lowS_size]
    exact this
  · exact Nat.zero_le _
theorem dec_le {n : Nat} (h : n ≤ 255) : (Lib.decDigits n).length ≤ 3 := by
  by_cases h1 : n < 10
  · rw [dec_one h1]; simp
  rw [dec_more h1]
  by_cases h2 : n / 10 < 10
  · rw [dec_one h2]; simp
  rw [dec_more h2]
  rw [dec_one (by omega)]
  simp
theorem oct_short {l : List UInt8} (h : (octP l).isSome = true) : l.length ≤ 3 := by
  obtain ⟨n, hn⟩ := Option.isSome_iff_exists.1 h
  obtain ⟨h1, h2⟩ := oct_dec hn
  rw [← h1]
  exact dec_le h2
theorem sp_sum (c : UInt8) : ∀ l : List UInt8, (sp c l).flatten.length + (sp c l).length = l.length + 1
  | [] => by simp [sp]
  | b :: l => by
    have ih := sp_sum c l
    rw [sp_cons]
    split
    · simp only [List.flatten_cons, List.length_append, List.length_cons, List.length_nil]; omega
    · split
      · next p r e =>
        rw [e] at ih
        simp only [List.flatten_cons, List.length_append, List.length_cons] at ih ⊢
        omega
      · next e => exact absurd e (sp_ne c l)
theorem flat_le (N : Nat) : ∀ l : List (List UInt8), (∀ p ∈ l, p.length ≤ N) → l.flatten.length ≤ l.length * N
  | [], _ => by simp
  | p :: l, h => by
    have ih := flat_le N l fun q hq => h q (List.mem_cons_of_mem _ hq)
    have := h p (List.mem_cons_self ..)
    simp only [List.flatten_cons, List.length_append, List.length_cons, Nat.succ_mul]
    omega
theorem sp_total (c : UInt8) (l : List UInt8) (h1 : (sp c l).length ≤ 4) (h2 : ∀ p ∈ sp c l, p.length ≤ 3) : l.length ≤ 15 := by
  have a := sp_sum c l
  have b := flat_le 3 _ h2
  omega
theorem adr_le {s : ByteArray} (h : adrE s = 0) : s.size ≤ 15 := by
  have hk : adrOk s = true := by
    cases hk : adrOk s
    · rw [(adr_no hk).2] at h; cases h
    · rfl
  simp only [adrOk, Bool.and_eq_true, beq_iff_eq, List.all_eq_true] at hk
  have e := ws_sp s 46
  have hl : (sp 46 s.data.toList).length = 4 := by rw [← e, List.length_map]; exact hk.1
  have := sp_total 46 s.data.toList (by omega) (fun p hp => by
    rw [← e] at hp
    obtain ⟨q, hq, rfl⟩ := List.mem_map.1 hp
    exact oct_short (hk.2 q hq))
  simpa using this

/-- The six kinds of operations that are their own normal form. -/
inductive Snd : Opp → Prop
  | node (n a : ByteArray) (b : Bool) (x : Int) : (b = false → x = 0) → n.size ≤ 63 → a.size ≤ 15 → Snd ⟨1, ⟨n, a, 0, 0⟩, svcZ, chkZ, b, x⟩
  | svc (n i m : ByteArray) (p : Int) (t : List ByteArray) (b : Bool) (x : Int) : (b = false → x = 0) → n.size ≤ 63 → i.size ≤ 63 → m.size ≤ 63 → 1 ≤ p → p ≤ 65535 → t.length ≤ 16 → (∀ y ∈ t, y.size ≤ 63) → Snd ⟨2, nodeZ, ⟨n, i, m, p, t, 0, 0⟩, chkZ, b, x⟩
  | chk (n i m : ByteArray) (p : Int) (t : ByteArray) (b : Bool) (x : Int) : (b = false → x = 0) → n.size ≤ 63 → i.size ≤ 63 → m.size ≤ 63 → 1 ≤ p → p ≤ 3 → t.size ≤ 200 → Snd ⟨3, nodeZ, svcZ, ⟨n, i, m, p, t, 0, 0⟩, b, x⟩
  | dnode (n : ByteArray) (b : Bool) (x : Int) : (b = false → x = 0) → n.size ≤ 63 → Snd ⟨4, ⟨n, ⟨#[]⟩, 0, 0⟩, svcZ, chkZ, b, x⟩
  | dsvc (n i : ByteArray) (b : Bool) (x : Int) : (b = false → x = 0) → n.size ≤ 63 → i.size ≤ 63 → Snd ⟨5, nodeZ, ⟨n, i, ⟨#[]⟩, 0, [], 0, 0⟩, chkZ, b, x⟩
  | dchk (n i : ByteArray) (b : Bool) (x : Int) : (b = false → x = 0) → n.size ≤ 63 → i.size ≤ 63 → Snd ⟨6, nodeZ, svcZ, ⟨n, i, ⟨#[]⟩, 0, ⟨#[]⟩, 0, 0⟩, b, x⟩
theorem want_no {o : Opp} : o.cas = false → wantF o = 0 := fun h => by unfold wantF; rw [h]; rfl
theorem orE_zeros {a b : Int} (h : orE a b = 0) : a = 0 ∧ b = 0 := by
  unfold orE at h
  split at h
  · rename_i h2; exact ⟨h2, h⟩
  · rename_i h2; exact absurd h h2
theorem spT_le {s : ByteArray} : (spT s).size ≤ 63 := by
  unfold spT
  split
  · exact Nat.zero_le _
  · exact lab_le
theorem tagsB_le {l : List ByteArray} (h : tagsE l = 0) : (tagsB l).length ≤ 16 ∧ ∀ y ∈ tagsB l, y.size ≤ 63 := by
  by_cases hk : tagsOk l
  · have h2 := (tags_yes hk).2
    constructor
    · rw [tagsB_len, h2]
      refine Nat.le_trans (compact_le _) ?_
      rw [List.length_mergeSort, List.length_map]
      exact hk.1
    · intro y hy
      obtain ⟨x, hx, rfl⟩ := tagsB_mem hk hy
      have := (labB_all (hk.2 x hx)).2.1
      rw [lowS_size]
      exact this
  · rw [(tags_no hk).1] at h
    cases h
theorem snd_shape {o : Opp} (h : sndB o = true) : Snd o := by
  obtain ⟨he, hf⟩ := (sndB_iff o).1 h
  unfold oppF at hf
  rw [if_pos he] at hf
  rw [hf]
  unfold oppE at he
  unfold oppN
  by_cases h1 : o.kind = 1
  · rw [if_pos h1] at he ⊢
    have hz := orE_zeros he
    rw [fixN_yes he, h1]
    exact .node _ _ _ _ want_no lab_le (adr_le hz.2)
  rw [if_neg h1] at he ⊢
  by_cases h2 : o.kind = 2
  · rw [if_pos h2] at he ⊢
    have hz := svc_parts he
    rw [svc_yes he, h2]
    have hp := hz.2.2.1
    unfold portE at hp
    split at hp
    · cases hp
    · exact .svc _ _ _ _ _ _ _ want_no lab_le lab_le lab_le (by omega) (by omega) (tagsB_le hz.2.2.2).1 (tagsB_le hz.2.2.2).2
  rw [if_neg h2] at he ⊢
  by_cases h3 : o.kind = 3
  · rw [if_pos h3] at he ⊢
    have hz := chk_parts he
    rw [chk_yes he, h3]
    have hp := hz.2.2.1
    have hn := hz.2.2.2
    unfold statE at hp
    unfold noteE at hn
    split at hp
    · split at hn
      · rename_i hh hh2
        exact .chk _ _ _ _ _ _ _ want_no lab_le lab_le spT_le (by omega) (by omega) hh2.1
      · cases hn
    · cases hp
  rw [if_neg h3] at he ⊢
  by_cases h4 : o.kind = 4
  · rw [if_pos h4, h4]
    exact .dnode _ _ _ want_no lab_le
  rw [if_neg h4] at he ⊢
  by_cases h5 : o.kind = 5
  · rw [if_pos h5, h5]
    exact .dsvc _ _ _ _ want_no lab_le lab_le
  rw [if_neg h5] at he ⊢
  by_cases h6 : o.kind = 6
  · rw [h6]
    exact .dchk _ _ _ _ want_no lab_le lab_le
  rw [if_neg h6] at he
  cases he
end Go.Proofs.YtieonnnlhhdfpaaGreatDoor

/- Layer 9 (records): an operation's 21 cells stored and read as one. -/
namespace Go.Proofs.YtieonnnlhhdfpaaGreatDoor
open Go.RowKit

theorem wp_store_op {op : Oper} {a : Act} {w : World} {g : Nat} {K : Act → World → Prop} {Q : Exit → Act → World → Prop} {x y : Operand} {c c' : Array Value} (ho : op.op = .store 58 x y) (hg : g = w.heap.size) (hx : a.eval x = .pointer (some ⟨g, 0, none⟩)) (hy : a.eval y = .agg c') (hs : c.size = 21) (hs' : c'.size = 21) (h1 : c'.all (·.oneCell') = true)
    (h : K (a.put op.dst undef) (w.alloc (.cells c' 58))) : op.wp Tryz.prog a (w.alloc (.cells c 58)) K Q := by
  subst hg
  exact wp_store_row 58 x y ho w.heap.size c' hx hy 58 c (heap_alloc_last w _) (by rw [info_op, hs']) (by rw [hs, hs']) h1 (by rw [World.setRow_alloc_new]; exact h)
theorem wp_put_op {op : Oper} {a : Act} {w : World} {g : Nat} {K : Act → World → Prop} {Q : Exit → Act → World → Prop} {x y : Operand} {c c' : Array Value} (ho : op.op = .store 58 x y) (hb : Blk w g c 58) (hx : a.eval x = .pointer (some ⟨g, 0, none⟩)) (hy : a.eval y = .agg c') (hs : c.size = 21) (hs' : c'.size = 21) (h1 : c'.all (·.oneCell') = true)
    (h : K (a.put op.dst undef) (w.setRow g c')) : op.wp Tryz.prog a w K Q :=
  wp_store_row 58 x y ho g c' hx hy 58 c hb (by rw [info_op, hs']) (by rw [hs, hs']) h1 h
theorem wp_get_op {op : Oper} {a : Act} {w : World} {g : Nat} {K : Act → World → Prop} {Q : Exit → Act → World → Prop} {x : Operand} {c : Array Value} (ho : op.op = .load 58 x) (hb : Blk w g c 58) (hx : a.eval x = .pointer (some ⟨g, 0, none⟩)) (hs : c.size = 21)
    (h : K (a.put op.dst (.agg c)) w) : op.wp Tryz.prog a w K Q :=
  wp_load_row 58 x ho g hx 58 c (0, 0) _ hb Tryz.underlying58 rfl (by rw [info_op, hs]) h
theorem Blk.put {w : World} {g : Nat} {c : Array Value} {T : TypeId} (h : Blk w g c T) (i : Nat) (v : Value) : Blk (w.setCell ⟨g, i, none⟩ v) g (c.setIfInBounds i v) T := Lib.heap_setCell_same h v
theorem putC_mid {g : Nat} {T : TypeId} : ∀ (l : List Value) (w : World) (i : Nat) (cs : Array Value), Blk w g cs T → i + l.length ≤ cs.size → Blk (putC w g i l) g (cs.toList.take i ++ l ++ cs.toList.drop (i + l.length)).toArray T
  | [], w, i, cs, h, _ => by
    have e : (cs.toList.take i ++ [] ++ cs.toList.drop (i + ([] : List Value).length)).toArray = cs := by
      rw [List.append_nil, List.length_nil, Nat.add_zero, List.take_append_drop]
    rw [e]
    exact h
  | v :: l, w, i, cs, h, hl => by
    simp only [List.length_cons] at hl
    have h1 : Blk (w.setCell ⟨g, i, none⟩ v) g (cs.setIfInBounds i v) T := Lib.heap_setCell_same h v
    have h2 := putC_mid l (w.setCell ⟨g, i, none⟩ v) (i + 1) (cs.setIfInBounds i v) h1 (by rw [Array.size_setIfInBounds]; omega)
    have e : (cs.setIfInBounds i v).toList.take (i + 1) ++ l ++ (cs.setIfInBounds i v).toList.drop (i + 1 + l.length) = cs.toList.take i ++ v :: l ++ cs.toList.drop (i + (v :: l).length) := by
      rw [Array.toList_setIfInBounds, List.take_succ_eq_append_getElem (by rw [List.length_set, Array.length_toList]; omega), List.take_set_of_le (Nat.le_refl _), List.drop_set_of_lt (by omega), List.length_cons, show i + 1 + l.length = i + (l.length + 1) by omega]
      simp
    rw [e] at h2
    exact h2
theorem blk_setRow {w : World} {g : Nat} {c : Array Value} {T : TypeId} (h : Blk w g c T) (c' : Array Value) : Blk (w.setRow g c') g c' T := setRow_heap w g c c' T (0, 0) h
theorem setCells_putC (g : Nat) : ∀ (l : List Value) (o : Nat) (w : World), w.setCells g o l = putC w g o l
  | [], _, _ => rfl
  | _ :: l, o, _ => setCells_putC g l (o + 1) _
theorem wp_get_part {op : Oper} {a : Act} {w : World} {g o n : Nat} {K : Act → World → Prop} {Q : Exit → Act → World → Prop} {x : Operand} {T U : TypeId} {C : Array Value} {l : List Value} {d : TypeDesc} (ho : op.op = .load T x) (hb : Blk w g C U) (hx : a.eval x = .pointer (some ⟨g, o, none⟩)) (hl : (C.toList.drop o).take n = l)
    (hu : Tryz.prog.underlying T = some d) (hd : d.isRow = true) (hi : (Tryz.prog.info? T).map (·.size) = some l.length) (h : K (a.put op.dst (.agg l.toArray)) w) : op.wp Tryz.prog a w K Q :=
  wp_load_mid T x ho g o hx l d (fun j v hv => hb.cell (o + j) (by
    rw [← hl, List.getElem?_take] at hv
    split at hv
    · rw [List.getElem?_drop, Array.getElem?_toList] at hv
      exact hv
    · cases hv)) hu hd hi h
theorem wp_put_part {op : Oper} {a : Act} {w : World} {g o : Nat} {K : Act → World → Prop} {Q : Exit → Act → World → Prop} {x y : Operand} {T U : TypeId} {C : Array Value} {l : List Value} (ho : op.op = .store T x y) (hb : Blk w g C U) (hx : a.eval x = .pointer (some ⟨g, o, none⟩)) (hy : a.eval y = .agg l.toArray)
    (hl : o + l.length ≤ C.size) (hi : (Tryz.prog.info? T).map (·.size) = some l.length) (h1 : l.toArray.all (·.oneCell') = true) (h : K (a.put op.dst undef) (putC w g o l)) : op.wp Tryz.prog a w K Q := by
  refine wp_store_mid T x y ho g o l.toArray hx hy ?_ hi h1 ?_
  · intro j hj
    have hj' : o + j < C.size := by
      have : j < l.length := hj
      omega
    exact ⟨by rw [hb.cell (o + j) (Array.getElem?_eq_getElem hj')]; rfl, hb.open _⟩
  · rw [setCells_putC]
    exact h
theorem size_node : (Tryz.prog.info? 54).map (·.size) = some 4 := by kernel_rfl
theorem size_svc : (Tryz.prog.info? 52).map (·.size) = some 7 := by kernel_rfl
theorem size_chk : (Tryz.prog.info? 56).map (·.size) = some 7 := by kernel_rfl
theorem row_setRow {w : World} {B g : Nat} {e T : TypeId} {size : Nat} {v : Value} {n : Nat} {xs : List Value} {cs : Array Value} (hg : Blk w g cs T) (hT : T ≠ e) (h : w.ownsRow B e size v n xs) (c' : Array Value) : (w.setRow g c').ownsRow B e size v n xs := by
  refine ⟨h.1, ?_⟩
  rcases h.2 with h1 | ⟨g', cap, cur, h1, h2, h3, h4⟩
  · exact .inl h1
  · refine .inr ⟨g', cap, cur, h1, h2, ?_, h4⟩
    rw [setRow_other _ _ _ _ (fun e' => ?_)]
    · exact h3
    · subst e'
      have hg' : w.heap[g']? = some (.cells cs T) := hg
      rw [h3] at hg'
      injection hg' with hg'
      injection hg' with _ hg'
      exact hT hg'.symm
end Go.Proofs.YtieonnnlhhdfpaaGreatDoor
