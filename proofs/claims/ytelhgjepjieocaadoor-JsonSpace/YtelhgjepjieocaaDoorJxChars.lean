/- Layer 18 (json): characters. -/
import Derived.Test.YtelhgjepjieocaaDoorJxChar
namespace Go.Proofs.YtelhgjepjieocaaDoor
open Go.RowKit Go.Sort
set_option linter.unusedVariables false

def chF : Nat → List UInt8 → Option (List UInt8 × List UInt8)
  | 0, _ => none
  | k + 1, l => if hdN l = some 34 then some ([], l.tail) else match charP l with
    | some (c, r) => (chF k r).map fun p => (c.toUInt8 :: p.1, p.2)
    | none => none
def chS (k : Nat) : Option (Nat × List UInt8) → Option (List UInt8 × List UInt8)
  | some (c, r) => (chF k r).map fun p => (c.toUInt8 :: p.1, p.2)
  | none => none
theorem chF_step {k : Nat} {l : List UInt8} (h : ¬ hdN l = some 34) : chF (k + 1) l = chS k (charP l) := by
  have e : chF (k + 1) l = if hdN l = some 34 then some ([], l.tail) else match charP l with
    | some (c, r) => (chF k r).map fun p => (c.toUInt8 :: p.1, p.2)
    | none => none := rfl
  rw [e, if_neg h]
  cases charP l with
  | none => rfl
  | some p => rfl
theorem chF_end {k : Nat} {l : List UInt8} (h : hdN l = some 34) : chF (k + 1) l = some ([], l.tail) := if_pos h
/-- A text at the front: what it says, what comes behind it. -/
def textP (l : List UInt8) : Option (List UInt8 × List UInt8) := if hdN l = some 34 then chF l.length l.tail else none
theorem hex4P_len {l r : List UInt8} {c : Nat} (h : hex4P l = some (c, r)) : c ≤ 127 ∧ r.length ≤ l.length := by
  unfold hex4P at h
  split at h
  · cases hq : hexF 0 (l.take 4) with
    | none => rw [hq] at h; cases h
    | some v =>
      rw [hq] at h
      simp only [Option.map_some, Option.some.injEq, Prod.mk.injEq] at h
      obtain ⟨rfl, rfl⟩ := h
      exact ⟨hexF_le _ 0 v (by omega) hq, by rw [List.length_drop]; omega⟩
  · cases h
theorem escV_le {c v : Nat} (h : escV c = some v) : v ≤ 92 := by
  unfold escV at h
  repeat (split at h; · cases h; omega)
  cases h
theorem charP_len {l r : List UInt8} {c : Nat} (h : charP l = some (c, r)) : c < 256 ∧ r.length < l.length := by
  cases l with
  | nil => cases h
  | cons x l =>
    have e : charP (x :: l) = if x.toNat = 92 then escP l else if x.toNat < 32 then none else some (x.toNat, l) := rfl
    rw [e] at h
    split at h
    · cases l with
      | nil => cases h
      | cons u m =>
        have e2 : escP (u :: m) = if u.toNat = 117 then hex4P m else (escV u.toNat).map fun v => (v, m) := rfl
        rw [e2] at h
        split at h
        · obtain ⟨h1, h2⟩ := hex4P_len h
          exact ⟨by omega, by simp; omega⟩
        · cases hq : escV u.toNat with
          | none => rw [hq] at h; cases h
          | some v =>
            rw [hq] at h
            simp only [Option.map_some, Option.some.injEq, Prod.mk.injEq] at h
            obtain ⟨rfl, rfl⟩ := h
            have := escV_le hq
            exact ⟨by omega, by simp; omega⟩
    · split at h
      · cases h
      · simp only [Option.some.injEq, Prod.mk.injEq] at h
        obtain ⟨rfl, rfl⟩ := h
        exact ⟨x.toNat_lt, by simp⟩
theorem info_u8 : (Tryd.prog.info? 5).map (fun i => (i.zero, i.size, i.bytes)) = some (some (.int .u8 0), 1, 1) := by kernel_rfl
theorem own_stringJ {w : World} {B : Nat} {v : Value} {l : List UInt8} (h : Own w B v l) : (convert 41 9 v).run Tryd.prog w = .ok (.string ⟨l.toArray⟩) w := by
  rcases h.2 with ⟨rfl, h0⟩ | ⟨g, cap, cur, rfl, _, _, _, _, _, _⟩
  · rw [run_convert_bytes_nil w _ _ Tryd.underlying41 Tryd.underlying5 0 0 _ Tryd.underlying9]
    rw [List.length_eq_zero_iff.1 h0]; rfl
  · refine run_convert_bytes_back w _ _ _ _ _ l Tryd.underlying41 Tryd.underlying5 Tryd.underlying9 ?_
    intro j hj
    refine World.ownsRow.cells h (g := g) rfl j _ ?_
    simp [bs, hj]
theorem ow_own {w : World} {B : Nat} {v : Value} {l : List UInt8} (h : Ow w B 5 v (bs l)) : Own w B v l := by
  unfold Ow at h
  rw [bs_length] at h
  exact h
theorem ow_string {w : World} {B : Nat} {v : Value} {l : List UInt8} (h : Ow w B 5 v (bs l)) : (convert 41 9 v).run Tryd.prog w = .ok (.string ⟨l.toArray⟩) w := own_stringJ (ow_own h)
/-- What a step of the reader answers that yields a text. -/
def TxR (w : World) (rb : Nat) (s : ByteArray) (r : Option (List UInt8 × List UInt8)) (e : Ending) (w' : World) : Prop :=
  match r with
  | some (t, l') => e = .returned (.tuple #[.string ⟨t.toArray⟩, .int .i64 0]) ∧ RdP w rb s l' w'
  | none => e = .returned (.tuple #[.string ⟨#[]⟩, .int .i64 181]) ∧ ∃ l', RdP w rb s l' w'
/-- What stands between two characters. -/
structure TcI (w : World) (rb : Nat) (s : ByteArray) (R : Option (List UInt8 × List UInt8)) (k m : Nat) (l' acc : List UInt8) (v : Value) (wr : World) : Prop where
  rd : Rd wr rb s m l'
  own : Ow wr w.heap.size 5 v (bs acc)
  eq : R = (chF k l').map fun p => (acc ++ p.1, p.2)
  fuel : l'.length < k
  small : acc.length + l'.length ≤ s.size
  frm : Frm (fun k => k = rb) w wr
theorem Frm.compJ {T0 T : Nat → Prop} {a b c : World} (h : Frm T0 a b) (k : Frm T b c) (hs : ∀ i, i < a.heap.size → T i → T0 i) : Frm T0 a c :=
  ⟨k.os.trans h.os, k.tape.trans h.tape, k.output.trans h.output, Nat.le_trans h.size k.size, fun i hi hn => (k.block i (Nat.lt_of_lt_of_le hi h.size) (fun x => hn (hs i hi x))).trans (h.block i hi hn)⟩
theorem Ow.rd {w w' : World} {rb B : Nat} {e : TypeId} {v : Value} {l : List Value} (h : Ow w B e v l) (hf : Frm (fun k => k = rb) w w') (hB : rb < B) : Ow w' B e v l := h.frm hf fun k e hk => by
  have := (h.lt k e).1
  omega

set_option maxRecDepth 100000 in
set_option maxHeartbeats 4000000 in
theorem characters_calls (w0 w : World) (rb n : Nat) (s : ByteArray) (l : List UInt8) (hb : Bs w0 w rb) (h : Rd w rb s n l) :
    Calls Tryd.prog 59 #[.pointer (some ⟨rb, 0, none⟩)] w (TxR w rb s (textP l)) := by
  have HTK := take_calls w rb n s l 34 34 h rfl
  by_cases h34 : hdN l = some 34
  · rw [tkL_yes h34, decide_eq_true h34] at HTK
    have hlen := h.len
    have hrb := lt_of_heapT h.blk
    have HBs : Hid (Bs w0 w rb) := hb
    have hl : l.length = l.tail.length + 1 := by
      cases l with
      | nil => cases h34
      | cons x l => rfl
    obtain ⟨R, HR⟩ : ∃ R, Hid (R = textP l) := ⟨_, rfl⟩
    have HRe : Hid (R = (chF l.length l.tail).map fun p => ([] ++ p.1, p.2)) := by
      rw [Hid, HR.out, textP, if_pos h34]
      cases chF l.length l.tail <;> rfl
    rw [← HR.out]
    have hsz := h.sz
    have hsl : l.tail.length ≤ s.size := by omega
    have HFu : Hid (l.tail.length < l.length) := by rw [Hid]; omega
    clear h hb h34 HR hl hlen
    go_enter Tryd.func59, Tryd.ntmps59
    go_wp2_with fail
    refine HTK.mono ?_
    clear HTK
    rintro e w1 ⟨rfl, ⟨n1, h1⟩, f1⟩
    have HI : Hid (TcI w rb s R l.length n1 l.tail [] (.slice none 0 0) w1) := ⟨h1, Ow.nil _ _ _, HRe.out, HFu.out, by simpa using hsl, f1⟩
    clear h1 f1 HRe HFu hsl
    go_wp2
    go_loopw [4] (fun v wr => ∃ (k m : Nat) (l' acc : List UInt8) (ao : Option Addr) (len cap : Nat), v = .slice ao len cap ∧ Hid (TcI w rb s R k m l' acc (.slice ao len cap) wr)) (fun _ wr => s.size - rdAt wr rb)
    case atStart => exact ⟨_, _, _, _, _, _, _, rfl, HI⟩
    case round =>
      clear HI
      obtain ⟨k, m, l', acc, ao, len, cap, rfl, HI⟩ := hrel
      have HTK := take_calls wr rb m s l' 34 34 HI.out.rd rfl
      have hal : acc.length = len := by
        obtain ⟨a1, c1, e1, -⟩ := HI.out.own.shape
        simp only [Value.slice.injEq] at e1
        rw [e1.2.1, bs_length]
      have hlen0 := HI.out.rd.len
      have hat0 := HI.out.rd.at
      have hfu := HI.out.fuel
      have hsm := HI.out.small
      obtain ⟨k, rfl⟩ : ∃ k', k = k' + 1 := ⟨k - 1, by omega⟩
      by_cases h34 : hdN l' = some 34
      · rw [tkL_yes h34, decide_eq_true h34] at HTK
        have HE : Hid (R = some (acc, l'.tail)) := by
          rw [Hid, HI.out.eq, chF_end h34]
          simp
        go_wp2_with fail
        refine HTK.mono ?_
        clear HTK
        rintro e w2 ⟨rfl, hr2, f2⟩
        have HO2 := HI.out.own.rd f2 hrb
        have hcv := ow_string HO2
        have HP2 : Hid (RdP w rb s l'.tail w2) := ⟨hr2, HI.out.frm.trans f2⟩
        clear hr2 f2 HI h34 HO2
        go_wp2
        go_ret2
        rw [HE.out]
        exact ⟨rfl, HP2.out⟩
      · rw [tkL_no h34, decide_eq_false h34] at HTK
        have HEq : Hid (R = (chS k (charP l')).map fun p => (acc ++ p.1, p.2)) := by rw [Hid, HI.out.eq, chF_step h34]
        go_wp2_with fail
        refine HTK.mono ?_
        clear HTK
        rintro e w2 ⟨rfl, ⟨n2, h2⟩, f2⟩
        have HCH := character_calls w0 w2 rb n2 s l' ((HBs.out.frm HI.out.frm).frm f2) h2
        have HO2 : Hid (Ow w2 w.heap.size 5 (.slice ao len cap) (bs acc)) := HI.out.own.rd f2 hrb
        have HF2 : Hid (Frm (fun k => k = rb) w w2) := HI.out.frm.trans f2
        clear h2 f2 HI h34
        cases hx : charP l' with
        | none =>
          have HE : Hid (R = none) := by rw [Hid, HEq.out, hx]; rfl
          rw [hx] at HCH
          clear hx HEq
          go_wp2_with fail
          refine HCH.mono ?_
          clear HCH
          rintro e w3 ⟨⟨c, rfl⟩, l2, hr⟩
          go_wp2
          go_ret2
          rw [HE.out]
          exact ⟨rfl, l2, hr.1, HF2.out.trans hr.2⟩
        | some p =>
          obtain ⟨c, r⟩ := p
          obtain ⟨hc256, hrl⟩ := charP_len hx
          have HE := HEq.out
          rw [hx] at HE
          rw [hx] at HCH
          clear hx HEq
          go_wp2_with fail
          refine HCH.mono ?_
          clear HCH
          rintro e w3 ⟨rfl, ⟨n3, h3⟩, f3⟩
          have HO3 : Hid (Ow w3 w.heap.size 5 (.slice ao len cap) (bs acc) ∧ w.heap.size ≤ w3.heap.size) := ⟨HO2.out.rd f3 hrb, (HF2.out.trans f3).size⟩
          have HR3 : Hid (Rd w3 rb s n3 r ∧ Frm (fun k => k = rb) w w3) := ⟨h3, HF2.out.trans f3⟩
          have hal2 : (bs acc).length = len := by rw [bs_length]; exact hal
          have hlm : len ≤ 1048576 := by omega
          have HEx : Hid (R = (chF k r).map fun p => ((acc ++ [c.toUInt8]) ++ p.1, p.2)) := by
            have e9 : chS k (some (c, r)) = (chF k r).map fun p => (c.toUInt8 :: p.1, p.2) := rfl
            rw [Hid, HE, e9]
            cases chF k r with
            | none => rfl
            | some p => simp
          have HSm : Hid ((acc ++ [c.toUInt8]).length + r.length ≤ s.size ∧ r.length < k) := by
            rw [Hid, List.length_append, List.length_singleton]
            omega
          have hcu : (c.toUInt8.toNat : Int) = (c : Int) := by
            have : c.toUInt8.toNat = c := by
              show c % 256 = c
              omega
            omega
          have Hb1 : Hid (bs acc ++ [Value.int .u8 (c : Int)] = bs (acc ++ [c.toUInt8])) := by
            rw [Hid, bs_append, ← hcu]; rfl
          clear h3 f3 HE HF2 HO2 hfu hsm hcu
          go_wp2_with (at_builtin; go_must (refine append_u w3 rfl (.tmp 20) (.tmp 22) 41 5 (.int .u8 0) 1 Tryd.underlying41 info_u8 rfl rfl w.heap.size _ (bs acc) rfl (.int .u8 (c : Int)) rfl _ rfl rfl HO3.out.1 (by rw [hal2]; omega) (by rw [hal2]; omega) HO3.out.2 ?_))
          intro v5 w5 ho5 hg5
          obtain ⟨a5, c5, rfl, -⟩ := ho5.shape
          have hF5 : Frm (fun k => k = rb) w w5 := HR3.out.2.compJ (Frm.ofGrewT hg5) (fun i hi hk => by have := (HO3.out.1.lt i hk).1; omega)
          have hR5 : Rd w5 rb s n3 r := HR3.out.1.frm (Frm.ofGrewT hg5) (fun hk => by have := (HO3.out.1.lt rb hk).1; omega)
          have hl5 : (bs acc ++ [Value.int .u8 (c : Int)]).length = len + 1 := by rw [List.length_append, hal2]; rfl
          rw [hl5] at ho5 ⊢
          rw [Hb1.out] at ho5
          have HI5 : Hid (TcI w rb s R k n3 r (acc ++ [c.toUInt8]) (.slice a5 (len + 1) c5) w5) := ⟨hR5, ho5, HEx.out, HSm.out.2, HSm.out.1, hF5⟩
          have hat5 := hR5.at
          have hlen5 := hR5.len
          clear ho5 hg5 hF5 hR5 HO3 HR3 HEx HSm Hb1 hl5 hal2
          go_wp2
          go_roundw
          case rel => exact ⟨k, n3, r, _, a5, len + 1, c5, rfl, HI5⟩
          case measure => rw [hat5, hat0]; omega
  · rw [tkL_no h34, decide_eq_false h34] at HTK
    have HQ : textP l = none := if_neg h34
    rw [HQ]
    clear h hb h34 HQ
    go_enter Tryd.func59, Tryd.ntmps59
    go_wp2_with fail
    refine HTK.mono ?_
    clear HTK
    rintro e w1 ⟨rfl, hr⟩
    go_wp2
    go_ret2
    exact ⟨rfl, l, hr⟩
end Go.Proofs.YtelhgjepjieocaaDoor
