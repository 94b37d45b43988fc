/- Layer 18 (json): escape, character. -/
import Derived.Test.YtelhgjepjieocaaDoorJxNb
namespace Go.Proofs.YtelhgjepjieocaaDoor
open Go.RowKit Go.Sort
set_option linter.unusedVariables false

/-- What a letter behind a backslash stands for. -/
def escV (c : Nat) : Option Nat := if c = 34 then some 34 else if c = 92 then some 92 else if c = 47 then some 47 else if c = 98 then some 8 else if c = 102 then some 12 else if c = 110 then some 10 else if c = 114 then some 13 else if c = 116 then some 9 else none
def escP : List UInt8 → Option (Nat × List UInt8)
  | [] => none
  | u :: r => if u.toNat = 117 then hex4P r else (escV u.toNat).map fun v => (v, r)
def charP : List UInt8 → Option (Nat × List UInt8)
  | [] => none
  | x :: r => if x.toNat = 92 then escP r else if x.toNat < 32 then none else some (x.toNat, r)
def escS : ByteArray := ⟨#[34, 92, 47, 98, 102, 110, 114, 116]⟩
def escIx (c : Nat) : Int := Lib.indexByte [34, 92, 47, 98, 102, 110, 114, 116] c.toUInt8
theorem esc_ix : ∀ c : Fin 256, (escIx c.val = -1 ∧ escV c.val = none) ∨ (escIx c.val = 0 ∧ escV c.val = some 34) ∨ (escIx c.val = 1 ∧ escV c.val = some 92) ∨ (escIx c.val = 2 ∧ escV c.val = some 47) ∨ (escIx c.val = 3 ∧ escV c.val = some 8) ∨ (escIx c.val = 4 ∧ escV c.val = some 12) ∨ (escIx c.val = 5 ∧ escV c.val = some 10) ∨ (escIx c.val = 6 ∧ escV c.val = some 13) ∨ (escIx c.val = 7 ∧ escV c.val = some 9) := by decide +kernel
theorem escP_tail {l : List UInt8} {c : Nat} (h : hdN l = some c) (h2 : c ≠ 117) : escP l = (escV c).map fun v => (v, l.tail) := by
  cases l with
  | nil => cases h
  | cons x l =>
    cases h
    show (if x.toNat = 117 then _ else _) = _
    rw [if_neg h2]; rfl
theorem escP_u {l : List UInt8} (h : hdN l = some 117) : escP l = hex4P l.tail := by
  cases l with
  | nil => cases h
  | cons x l =>
    have : x.toNat = 117 := by simpa [hdN] using h
    show (if x.toNat = 117 then _ else _) = _
    rw [if_pos this]; rfl
theorem indexByte_calls (c : Nat) (w : World) : Calls Tryd.prog 72 #[.string ⟨#[34, 92, 47, 98, 102, 110, 114, 116]⟩, .int .u8 (c : Int)] w fun e w' => e = .returned (.int .i64 (escIx c)) ∧ w' = w := Tryd.strings_IndexByte _ (c : Int) w
theorem rd_step {w : World} {rb n : Nat} {s : ByteArray} {l : List UInt8} (h : Rd w rb s n l) (hc : n < s.size) : Rd (w.setCell ⟨rb, 1, none⟩ (.int .i64 ((n : Int) + 1))) rb s (n + 1) l.tail := by
  have := h.set (m := n + 1) (by omega)
  rw [h.tail hc, show ((n + 1 : Nat) : Int) = (n : Int) + 1 by omega] at this
  exact this

set_option maxRecDepth 100000 in
set_option maxHeartbeats 4000000 in
theorem escape_calls (w0 w : World) (rb n : Nat) (s : ByteArray) (l : List UInt8) (hb : Bs w0 w rb) (h : Rd w rb s n l) :
    Calls Tryd.prog 73 #[.pointer (some ⟨rb, 0, none⟩)] w (ByR w rb s (escP l)) := by
  by_cases h117 : hdN l = some 117
  · have HE : Hid (escP l = hex4P l.tail) := escP_u h117
    have HTK := take_calls w rb n s l 117 117 h rfl
    rw [tkL_yes h117, decide_eq_true h117] at HTK
    have HBs : Hid (Bs w0 w rb) := hb
    rw [HE.out]
    clear h hb h117
    go_enter Tryd.func73, Tryd.ntmps73
    go_wp2_with fail
    refine HTK.mono ?_
    clear HTK
    rintro e w1 ⟨rfl, ⟨n1, h1⟩, f1⟩
    have HF1 : Hid (Frm (fun k => k = rb) w w1) := f1
    have HNB := numbered_calls w0 w1 rb n1 s l.tail (HBs.out.frm f1) h1
    clear f1 h1
    cases hx : hex4P l.tail with
    | some p =>
      obtain ⟨c, l'⟩ := p
      rw [hx] at HNB
      go_wp2_with fail
      refine HNB.mono ?_
      clear HNB
      rintro e w2 ⟨rfl, hr⟩
      go_wp2
      go_ret2
      rw [hx]
      exact ⟨rfl, hr.1, HF1.out.trans hr.2⟩
    | none =>
      rw [hx] at HNB
      go_wp2_with fail
      refine HNB.mono ?_
      clear HNB
      rintro e w2 ⟨⟨c, rfl⟩, l', hr⟩
      go_wp2
      go_ret2
      rw [hx]
      exact ⟨⟨_, rfl⟩, l', hr.1, HF1.out.trans hr.2⟩
  · have HTK := take_calls w rb n s l 117 117 h rfl
    rw [tkL_no h117, decide_eq_false h117] at HTK
    have HIX := indexByte_calls ((hdN l).getD 0)
    have hcl : (hdN l).getD 0 < 256 := by
      cases l with
      | nil => decide
      | cons x l => exact x.toNat_lt
    have HE : Hid (∀ v, escV ((hdN l).getD 0) = some v → escP l = some (v, l.tail) ∧ ∃ c, hdN l = some c) := fun v hv => by
      cases l with
      | nil => cases hv
      | cons x l =>
        refine ⟨?_, _, rfl⟩
        rw [escP_tail rfl (fun e => h117 (by show some x.toNat = _; rw [e]))]
        have : escV x.toNat = some v := hv
        rw [this]; rfl
    have HE0 : Hid (escV ((hdN l).getD 0) = none → escP l = none) := fun hv => by
      cases l with
      | nil => rfl
      | cons x l =>
        rw [escP_tail rfl (fun e => h117 (by show some x.toNat = _; rw [e]))]
        have : escV x.toNat = none := hv
        rw [this]; rfl
    have HX := esc_ix ⟨_, hcl⟩
    clear h hb
    rcases HX with ⟨e, hv⟩ | ⟨e, hv⟩ | ⟨e, hv⟩ | ⟨e, hv⟩ | ⟨e, hv⟩ | ⟨e, hv⟩ | ⟨e, hv⟩ | ⟨e, hv⟩ | ⟨e, hv⟩
    all_goals simp only at e hv
    all_goals rw [e] at HIX
    · rw [HE0.out hv]
      clear HE HE0 hv e hcl
      go_enter Tryd.func73, Tryd.ntmps73
      go_wp2_with fail
      refine HTK.mono ?_
      clear HTK
      rintro e w1 ⟨rfl, ⟨n1, h1⟩, f1⟩
      have HR1 : Hid (Rd w1 rb s n1 l) := h1
      have HF1 : Hid (Frm (fun k => k = rb) w w1) := f1
      have HNX := next_calls w1 rb n1 s l h1
      clear h1 f1
      go_wp2_with fail
      refine HNX.mono ?_
      clear HNX
      rintro e w2 ⟨rfl, m2, rfl⟩
      go_wp2_with fail
      refine (HIX _).mono ?_
      clear HIX
      rintro e w3 ⟨rfl, rfl⟩
      go_wp2
      go_ret2
      exact ⟨⟨_, rfl⟩, l, ⟨n1, HR1.out.below (below_drawsT _ _)⟩, HF1.out.trans (Frm.ofDraws _ _ _)⟩
    all_goals
      obtain ⟨hq, c, hc⟩ := HE.out _ hv
      rw [hq]
      clear HE HE0 hv e hcl hq
      go_enter Tryd.func73, Tryd.ntmps73
      go_wp2_with fail
      refine HTK.mono ?_
      clear HTK
      rintro e w1 ⟨rfl, ⟨n1, h1⟩, f1⟩
      have HR1 : Hid (Rd w1 rb s n1 l) := h1
      have HF1 : Hid (Frm (fun k => k = rb) w w1) := f1
      have HNX := next_calls w1 rb n1 s l h1
      have hpos := h1.pos hc
      have hsz := h1.sz
      clear h1 f1 hc
      go_wp2_with fail
      refine HNX.mono ?_
      clear HNX
      rintro e w2 ⟨rfl, m2, rfl⟩
      go_wp2_with fail
      refine (HIX _).mono ?_
      clear HIX
      rintro e w3 ⟨rfl, rfl⟩
      have HR3 := HR1.out.below (below_drawsT w1 m2)
      obtain ⟨-, c1, g1⟩ := HR3.cells
      have HZ : Hid (RdP w rb s l.tail ((w1.drewN m2).setCell ⟨rb, 1, none⟩ (.int .i64 ((n1 : Int) + 1)))) := ⟨⟨_, rd_step HR3 hpos⟩, (HF1.out.trans (Frm.ofDraws _ _ _)).trans (frm_set _ _ _ _)⟩
      clear HR3
      go_wp2
      go_ret2
      exact ⟨rfl, HZ.out⟩

theorem charP_esc {l : List UInt8} (h : hdN l = some 92) : charP l = escP l.tail := by
  cases l with
  | nil => cases h
  | cons x l =>
    have : x.toNat = 92 := by simpa [hdN] using h
    show (if x.toNat = 92 then _ else _) = _
    rw [if_pos this]; rfl
theorem charP_low {l : List UInt8} (h : ¬ hdN l = some 92) (hc : (hdN l).getD 0 < 32) : charP l = none := by
  cases l with
  | nil => rfl
  | cons x l =>
    have h1 : ¬ x.toNat = 92 := fun e => h (by show some x.toNat = _; rw [e])
    have h2 : x.toNat < 32 := hc
    show (if x.toNat = 92 then _ else _) = _
    rw [if_neg h1, if_pos h2]
theorem charP_own {l : List UInt8} (h : ¬ hdN l = some 92) (hc : ¬ (hdN l).getD 0 < 32) : charP l = some ((hdN l).getD 0, l.tail) ∧ ∃ c, hdN l = some c := by
  cases l with
  | nil => exact absurd (by decide : (0 : Nat) < 32) hc
  | cons x l =>
    have h1 : ¬ x.toNat = 92 := fun e => h (by show some x.toNat = _; rw [e])
    have h2 : ¬ x.toNat < 32 := hc
    refine ⟨?_, _, rfl⟩
    show (if x.toNat = 92 then _ else _) = _
    rw [if_neg h1, if_neg h2]; rfl
set_option maxRecDepth 100000 in
set_option maxHeartbeats 4000000 in
theorem character_calls (w0 w : World) (rb n : Nat) (s : ByteArray) (l : List UInt8) (hb : Bs w0 w rb) (h : Rd w rb s n l) :
    Calls Tryd.prog 67 #[.pointer (some ⟨rb, 0, none⟩)] w (ByR w rb s (charP l)) := by
  by_cases h92 : hdN l = some 92
  · have HE : Hid (charP l = escP l.tail) := charP_esc h92
    have HTK := take_calls w rb n s l 92 92 h rfl
    rw [tkL_yes h92, decide_eq_true h92] at HTK
    have HBs : Hid (Bs w0 w rb) := hb
    rw [HE.out]
    clear h hb h92
    go_enter Tryd.func67, Tryd.ntmps67
    go_wp2_with fail
    refine HTK.mono ?_
    clear HTK
    rintro e w1 ⟨rfl, ⟨n1, h1⟩, f1⟩
    have HF1 : Hid (Frm (fun k => k = rb) w w1) := f1
    have HNB := escape_calls w0 w1 rb n1 s l.tail (HBs.out.frm f1) h1
    clear f1 h1
    cases hx : escP l.tail with
    | some p =>
      obtain ⟨c, l'⟩ := p
      rw [hx] at HNB
      go_wp2_with fail
      refine HNB.mono ?_
      clear HNB
      rintro e w2 ⟨rfl, hr⟩
      go_wp2
      go_ret2
      rw [hx]
      exact ⟨rfl, hr.1, HF1.out.trans hr.2⟩
    | none =>
      rw [hx] at HNB
      go_wp2_with fail
      refine HNB.mono ?_
      clear HNB
      rintro e w2 ⟨⟨c, rfl⟩, l', hr⟩
      go_wp2
      go_ret2
      rw [hx]
      exact ⟨⟨_, rfl⟩, l', hr.1, HF1.out.trans hr.2⟩
  · have HTK := take_calls w rb n s l 92 92 h rfl
    rw [tkL_no h92, decide_eq_false h92] at HTK
    by_cases hc : (hdN l).getD 0 < 32
    · rw [charP_low h92 hc]
      clear h hb h92
      go_enter Tryd.func67, Tryd.ntmps67
      go_wp2_with fail
      refine HTK.mono ?_
      clear HTK
      rintro e w1 ⟨rfl, ⟨n1, h1⟩, f1⟩
      have HR1 : Hid (Rd w1 rb s n1 l) := h1
      have HF1 : Hid (Frm (fun k => k = rb) w w1) := f1
      have HNX := next_calls w1 rb n1 s l h1
      clear h1 f1
      obtain ⟨x, Hx⟩ : ∃ x, Hid (x = (hdN l).getD 0) := ⟨_, rfl⟩
      rw [← Hx.out] at HNX hc
      go_wp2_with fail
      refine HNX.mono ?_
      clear HNX
      rintro e w2 ⟨rfl, m2, rfl⟩
      go_wp2
      go_ret2
      exact ⟨⟨_, rfl⟩, l, ⟨n1, HR1.out.below (below_drawsT _ _)⟩, HF1.out.trans (Frm.ofDraws _ _ _)⟩
    · obtain ⟨hq, c, hd⟩ := charP_own h92 hc
      rw [hq]
      clear h hb h92 hq
      go_enter Tryd.func67, Tryd.ntmps67
      go_wp2_with fail
      refine HTK.mono ?_
      clear HTK
      rintro e w1 ⟨rfl, ⟨n1, h1⟩, f1⟩
      have HR1 : Hid (Rd w1 rb s n1 l) := h1
      have HF1 : Hid (Frm (fun k => k = rb) w w1) := f1
      have HNX := next_calls w1 rb n1 s l h1
      have hpos := h1.pos hd
      have hsz := h1.sz
      clear h1 f1 hd
      obtain ⟨x, Hx⟩ : ∃ x, Hid (x = (hdN l).getD 0) := ⟨_, rfl⟩
      rw [← Hx.out] at HNX hc
      go_wp2_with fail
      refine HNX.mono ?_
      clear HNX
      rintro e w2 ⟨rfl, m2, rfl⟩
      have HR3 := HR1.out.below (below_drawsT w1 m2)
      obtain ⟨-, c1, g1⟩ := HR3.cells
      have HZ : Hid (RdP w rb s l.tail ((w1.drewN m2).setCell ⟨rb, 1, none⟩ (.int .i64 ((n1 : Int) + 1)))) := ⟨⟨_, rd_step HR3 hpos⟩, (HF1.out.trans (Frm.ofDraws _ _ _)).trans (frm_set _ _ _ _)⟩
      clear HR3
      go_wp2
      go_ret2
      rw [← Hx.out]
      exact ⟨rfl, HZ.out⟩
end Go.Proofs.YtelhgjepjieocaaDoor
