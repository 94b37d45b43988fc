/- Layer 13 (journal): JournalTells, the walk. -/
import Derived.Test.YtmkohdepgfahnaaGreatDoorJLSums
import Derived.Test.YtmkohdepgfahnaaGreatDoorRcCopyO
import Derived.Test.YtmkohdepgfahnaaGreatDoorJDecE
namespace Go.Proofs.YtmkohdepgfahnaaGreatDoor
open Go.RowKit
set_option linter.unusedVariables false

/-- What an entry's operations must be for a call of the laws. -/
structure EntOk (i : Int) (l : List OV) : Prop where
  i0 : 0 ≤ i
  i1 : i ≤ 18446744073709551615
  len : l.length * 256 ≤ 140737488355328
  ok : ∀ x ∈ l, x.ok
  rng : ∀ x ∈ l, x.o.rng
  tags : ∀ x ∈ l, x.o.svc.tags.length ≤ 8796093022207
theorem ops_mem {l l' : List OV} (h : ops l' = ops l) {P : Opp → Prop} (hp : ∀ x ∈ l, P x.o) : ∀ x ∈ l', P x.o := fun x hx => by
  have : x.o ∈ ops l' := List.mem_map.2 ⟨x, hx, rfl⟩
  rw [h] at this
  obtain ⟨y, hy, e⟩ := List.mem_map.1 this
  rw [← e]
  exact hp y hy
theorem ops_len {l l' : List OV} (h : ops l' = ops l) : l'.length = l.length := by
  have := congrArg List.length h
  simpa [ops] using this
theorem EntOk.copy {i : Int} {l l' : List OV} (h : EntOk i l) (e : ops l' = ops l) : EntOk i l' :=
  ⟨h.i0, h.i1, by rw [ops_len e]; exact h.len, fun x hx => ⟨ops_mem e (P := fun o => o.small) (fun y hy => (h.ok y hy).small) x hx, ops_mem e (P := fun o => o.svc.tags.length ≤ 140737488355328) (fun y hy => (h.ok y hy).len) x hx⟩, ops_mem e (P := fun o => o.rng) h.rng, ops_mem e (P := fun o => o.svc.tags.length ≤ 8796093022207) h.tags⟩
theorem own_cap {w : World} {B n cap : Nat} {ao : Option Addr} {l : List UInt8} (h : Own w B (.slice ao n cap) l) : l.length ≤ cap := by
  rcases h.2 with ⟨e, h0⟩ | ⟨g, cap', cur, e, _, _, hnc, _⟩
  · omega
  · simp only [Value.slice.injEq] at e
    obtain ⟨_, _, rfl⟩ := e
    exact hnc
/-- Encode of a copy of an entry. -/
theorem encCopy_calls (i : Int) (l : List OV) (l' : List OV) (ao : Option Addr) (c : Nat) (w : World) (hv : Vs w) (h : EntOk i l) (e : ops l' = ops l) (hat : OpsAt w ao l') :
    Calls Tryz.prog 15 #[.agg #[.int .u64 i, .slice ao l'.length c]] w fun e w' => ∃ v', e = .returned (.tuple #[v', .int .i64 (encE (ops l))]) ∧ Own w' w.heap.size v' (encB i (ops l)) ∧ Below w.heap.size w w' := by
  have k := h.copy e
  have := jencode_calls i ao c l' w k.i0 k.i1 hv (by have := k.len; omega) k.ok k.rng hat
  rw [e] at this
  exact this

set_option maxRecDepth 100000 in
set_option maxHeartbeats 4000000 in
theorem journalTells_calls (i : Int) (ao : Option Addr) (c : Nat) (l : List OV) (k : Int) (x : UInt8) (w : World) (hv : Vs w) (h : EntOk i l) (hat : OpsAt w ao l) :
    Calls Tryz.prog 8 #[.agg #[.int .u64 i, .slice ao l.length c], .int .i64 k, .int .u8 (x.toNat : Int)] w fun e w' => e = .returned (.bool true) ∧ Below w.heap.size w w' := by
  have HK : Hid (EntOk i l) := h
  have HV : Hid (Vs w) := hv
  have HAT : Hid (OpsAt w ao l) := hat
  clear h hv hat
  have HCP : Hid (∀ w', Below w.heap.size w w' → Calls Tryz.prog 13 #[.agg #[.int .u64 i, .slice ao l.length c]] w' fun e w'' => CopE w' i l e w'') := fun w' hb => copyE_calls i ao c l w' HK.out.len HK.out.tags (HAT.out.below hb)
  obtain ⟨n, Hn⟩ : ∃ x, Hid (x = l.length) := ⟨_, rfl⟩
  rw [← Hn.out] at HCP ⊢
  obtain ⟨wx, Hwx⟩ : ∃ x, Hid (x = w.alloc (.cells #[.int .u64 i, .slice ao n c] 31)) := ⟨_, rfl⟩
  have HX : Hid (Blk wx w.heap.size #[.int .u64 i, .slice ao n c] 31) := by rw [Hwx.out]; exact Blk.new _ _ _
  have HB : Hid (Below w.heap.size w wx) := by rw [Hwx.out]; exact below_new w _
  go_enter Tryz.func8, Tryz.ntmps8
  go_upto_region 1 with fail
  rw [← Hwx.out]
  clear Hwx
  go_wp2_with fail
  refine (journalFixed_calls wx (HV.out.stay HB.out)).mono ?_
  rintro e w1 ⟨rfl, hb1⟩
  have HB1 : Hid (Below w.heap.size w w1) := HB.out.trans (hb1.mono HB.out.size)
  have HX1 : Hid (Blk w1 w.heap.size #[.int .u64 i, .slice ao n c] 31) := HX.out.below hb1
  clear hb1 HX HB
  have c0 := HX1.out.cell 0 rfl
  have c1 := HX1.out.cell 1 rfl
  go_wp2_with fail
  refine (HCP.out w1 HB1.out).mono ?_
  rintro e w2 ⟨a2, k2, l2, rfl, ho2, hown2, hb2⟩
  have HB2 : Hid (Below w.heap.size w w2) := HB1.out.trans (hb2.mono HB1.out.size)
  have HEC : Hid (Calls Tryz.prog 15 #[.agg #[.int .u64 i, .slice a2 l2.length k2]] w2 fun e w' => ∃ v', e = .returned (.tuple #[v', .int .i64 (encE (ops l))]) ∧ Own w' w2.heap.size v' (encB i (ops l)) ∧ Below w2.heap.size w2 w') := encCopy_calls i l l2 a2 k2 w2 (HV.out.stay HB2.out) HK.out ho2 hown2.at
  obtain ⟨n2, Hn2⟩ : ∃ x, Hid (x = l2.length) := ⟨_, rfl⟩
  rw [← Hn2.out] at HEC ⊢
  clear ho2 hown2 hb2 Hn2 HX1 HB1 c0 c1 HCP
  go_wp2_with fail
  refine HEC.out.mono ?_
  rintro e w3 ⟨v3, rfl, ho3, hb3⟩
  have HB3 : Hid (Below w.heap.size w w3) := HB2.out.trans (hb3.mono HB2.out.size)
  clear hb3 HEC
  cases hs : soundB (ops l) with
  | false =>
    have HE : Hid (encE (ops l) = 130) := by unfold encE; rw [hs]; rfl
    rw [HE.out]
    clear HE hs
    obtain ⟨a3, k3, rfl⟩ := ho3.shape
    go_wp2
    go_ret
    exact ⟨rfl, HB3.out⟩
  | true =>
    have HE : Hid (encE (ops l) = 0 ∧ encB i (ops l) = frameB (payB i (ops l))) := by unfold encE encB; rw [hs]; exact ⟨rfl, rfl⟩
    have HPL : Hid ((payB i (ops l)).length ≤ 78793) := payB_le hs
    rw [HE.out.1]
    rw [HE.out.2] at ho3
    clear HE hs
    obtain ⟨p, Hp⟩ : ∃ x, Hid (x = payB i (ops l)) := ⟨_, rfl⟩
    rw [← Hp.out] at ho3 HPL
    clear Hp
    obtain ⟨F, HF⟩ : ∃ x, Hid (x = frameB p) := ⟨_, rfl⟩
    have hFl : F.length = p.length + 9 := by rw [HF.out]; simp [frameB, big_length]; omega
    rw [← HF.out] at ho3
    obtain ⟨a3, k3, rfl⟩ := ho3.shape
    obtain ⟨fl, Hfl⟩ : ∃ x, Hid (x = F.length) := ⟨_, rfl⟩
    rw [← Hfl.out] at hFl
    have hpl := HPL.out
    have hflb : fl ≤ 78802 := by omega
    have HFL : Hid (p.length ≤ 78793) := hpl
    clear hFl hpl
    have HO3 : Hid (Own w3 w2.heap.size (.slice a3 F.length k3) F) := ho3
    clear ho3
    rw [← Hfl.out]
    by_cases hk0 : k < 0
    · go_wp2
      go_ret
      exact ⟨rfl, HB3.out⟩
    by_cases hkn : (fl : Int) ≤ k
    · have q1 : decide ((fl : Int) ≤ k) = true := by simpa using hkn
      go_wp2
      go_ret
      exact ⟨rfl, HB3.out⟩
    have q1 : decide ((fl : Int) ≤ k) = false := by simpa using hkn
    by_cases h14 : 1 ≤ k ∧ k ≤ 4
    · have q2 : decide (1 ≤ k) = true := by simpa using h14.1
      have q3 : decide (k ≤ 4) = true := by simpa using h14.2
      go_wp2
      go_ret
      exact ⟨rfl, HB3.out⟩
    by_cases hx0 : x = 0
    · have q4 : ((x.toNat : Int) == 0) = true := by subst hx0; rfl
      clear hx0
      by_cases h1 : 1 ≤ k
      · have q2 : decide (1 ≤ k) = true := by simpa using h1
        have q3 : decide (k ≤ 4) = false := by simp; omega
        go_wp2
        go_ret
        exact ⟨rfl, HB3.out⟩
      · have q2 : decide (1 ≤ k) = false := by simpa using h1
        go_wp2
        go_ret
        exact ⟨rfl, HB3.out⟩
    have q4 : ((x.toNat : Int) == 0) = false := by
      have : x.toNat ≠ 0 := fun e => hx0 (UInt8.toNat_inj.1 (by simpa using e))
      simpa using this
    obtain ⟨j, rfl⟩ : ∃ j : Nat, k = (j : Int) := ⟨k.toNat, by omega⟩
    have hj : j < F.length := by rw [← Hfl.out]; omega
    have HJ14 : Hid (¬ (1 ≤ j ∧ j ≤ 4)) := by show ¬ _; omega
    obtain ⟨cc, Hcc⟩ : ∃ y, Hid (y = F[j]'hj) := ⟨_, rfl⟩
    have HFE : Hid (payE (F.set j (cc ^^^ x)) = 132) := by
      show _ = _
      have hj2 : j < (frameB p).length := by rw [← HF.out]; exact hj
      have e1 : (frameB p)[j]'hj2 = cc := by
        rw [Hcc.out]
        have : (frameB p)[j]? = F[j]? := by rw [HF.out]
        rw [List.getElem?_eq_getElem hj2, List.getElem?_eq_getElem hj] at this
        exact Option.some.inj this
      have := frame_flip (by have := HFL.out; omega) hj2 HJ14.out (c := cc ^^^ x) (by rw [e1]; exact flip_ne hx0)
      rw [HF.out]
      exact this
    clear HF HJ14
    have HNL : Hid ((bs F).length = fl * 1) := by show _ = _; rw [bs_length, ← Hfl.out, Nat.mul_one]
    have HA3 : Hid (CellsAt (w3.alloc (.cells #[] 5)) a3 (bs F)) := HO3.out.bytes.below (below_new _ _)
    obtain ⟨K14, HK14⟩ : ∃ b : Bool, Hid (b = decide (1 ≤ (j : Int))) := ⟨_, rfl⟩
    have q2 : decide (1 ≤ (j : Int)) = K14 := HK14.out.symm
    have q3 : K14 = true → decide ((j : Int) ≤ 4) = false := fun e => by
      rw [HK14.out] at e
      simp at e ⊢
      omega
    have hj4 : K14 = true → 4 < j := fun e => by
      rw [HK14.out] at e
      simp at e
      omega
    have hj0 : K14 = false → j < 1 := fun e => by
      rw [HK14.out] at e
      simp at e
      omega
    have hjn : j < fl := by rw [Hfl.out]; exact hj
    clear HK14 h14 hkn q1
    cases K14 with
    | true =>
      have hj4 := hj4 rfl
      clear q3 hj0 q2
      go_wp2_with (at_builtin; refine append_src _ rfl (.tmp 45) (.tmp 46) 23 5 (.int .u8 0) 1 1 Tryz.underlying23 info_u8 rfl (by decide) rfl w3.heap.size _ 0 [] rfl (empty_own w3) a3 fl k3 (bs F) rfl HNL.out HA3.out (bs_one F) (by unfold maxLen; omega) (by omega) (by simp) ?_)
      intro v4 w4 ho4' hg4
      have ho4 : Own w4 w3.heap.size v4 F := by
        unfold Own
        rw [← Hfl.out]
        simpa using ho4'
      have HB4 : Hid (Below w.heap.size w w4) := HB3.out.trans ((((Below.refl w3.heap.size w3).alloc (Nat.le_refl _) _).trans (hg4.toBelow (by simp) (fun q hq => by simp [Value.ownBlock] at hq; omega))).mono HB3.out.size)
      clear ho4' hg4 HA3 HNL
      obtain ⟨a4, k4, rfl⟩ := ho4.shape
      obtain ⟨g, hg⟩ : ∃ g, a4 = some ⟨g, 0, none⟩ := by
        obtain ⟨ao', cap', e1, e2⟩ := row_forms ho4
        obtain ⟨g, e3⟩ := e2 (by omega)
        simp only [Value.slice.injEq] at e1
        exact ⟨g, by rw [e1.1]; exact e3⟩
      subst hg
      have HO4 : Hid (Own w4 w3.heap.size (.slice (some ⟨g, 0, none⟩) F.length k4) F) := ho4
      have hcap4 : fl ≤ k4 := by rw [Hfl.out]; exact own_cap ho4
      clear ho4
      rw [← Hfl.out]
      have cf := HO4.out.at rfl j hj
      have e0 : F.getD j 0 = cc := by rw [Hcc.out]; simp [hj]
      rw [e0] at cf
      clear e0
      obtain ⟨c0, f0⟩ := cf
      have hxo := flip_val cc x
      obtain ⟨d, Hd⟩ : ∃ d, Hid (d = cc ^^^ x) := ⟨_, rfl⟩
      rw [← Hd.out] at hxo HFE
      have HO5 : Hid (Own (w4.setCell ⟨g, j, none⟩ (.int .u8 (d.toNat : Int))) w3.heap.size (.slice (some ⟨g, 0, none⟩) F.length k4) (F.set j d)) := HO4.out.stored rfl j d
      have HB5 : Hid (Below w.heap.size w (w4.setCell ⟨g, j, none⟩ (.int .u8 (d.toNat : Int)))) := HB4.out.setCell (p := ⟨g, j, none⟩) (Nat.le_trans HB3.out.size (HO4.out.lt g rfl).1) _
      have HDC : Hid (Calls Tryz.prog 18 #[.slice (some ⟨g, 0, none⟩) fl k4] (w4.setCell ⟨g, j, none⟩ (.int .u8 (d.toNat : Int))) fun e w' => e = .returned (.tuple #[.agg #[.int .u64 0, .slice none 0 0], .int .i64 0, .int .i64 132]) ∧ Below (w4.setCell ⟨g, j, none⟩ (.int .u8 (d.toNat : Int))).heap.size (w4.setCell ⟨g, j, none⟩ (.int .u8 (d.toNat : Int))) w') := by
        have h6 : (F.set j d).length = fl := by rw [List.length_set, Hfl.out]
        have := decode_bad (some ⟨g, 0, none⟩) k4 (F.set j d) (w4.setCell ⟨g, j, none⟩ (.int .u8 (d.toNat : Int))) (by rw [h6]; omega) (by rw [h6]; exact hcap4) (by
          have := HO5.out
          rw [show F.length = (F.set j d).length from (List.length_set ..).symm] at this
          exact this.bytes) (by rw [HFE.out]; decide)
        rw [h6, HFE.out] at this
        exact this
      clear HO5 HO4 HFE Hd Hcc HB4 hx0 hk0 HO3
      clear hj
      go_wp2_with fail
      refine HDC.out.mono ?_
      rintro e w6 ⟨rfl, hb6⟩
      have HB6 : Hid (Below w.heap.size w w6) := HB5.out.trans (hb6.mono HB5.out.size)
      clear hb6 HDC HB5 hxo c0 f0
      have HB7 : Hid (Below w.heap.size w (w6.alloc (.cells #[.int .u64 0, .slice none 0 0] 31))) := HB6.out.alloc HB6.out.size _
      go_wp2
      go_ret
      exact ⟨rfl, HB7.out⟩
    | false =>
      have hj0 := hj0 rfl
      clear q3 hj4 q2
      go_wp2_with (at_builtin; refine append_src _ rfl (.tmp 45) (.tmp 46) 23 5 (.int .u8 0) 1 1 Tryz.underlying23 info_u8 rfl (by decide) rfl w3.heap.size _ 0 [] rfl (empty_own w3) a3 fl k3 (bs F) rfl HNL.out HA3.out (bs_one F) (by unfold maxLen; omega) (by omega) (by simp) ?_)
      intro v4 w4 ho4' hg4
      have ho4 : Own w4 w3.heap.size v4 F := by
        unfold Own
        rw [← Hfl.out]
        simpa using ho4'
      have HB4 : Hid (Below w.heap.size w w4) := HB3.out.trans ((((Below.refl w3.heap.size w3).alloc (Nat.le_refl _) _).trans (hg4.toBelow (by simp) (fun q hq => by simp [Value.ownBlock] at hq; omega))).mono HB3.out.size)
      clear ho4' hg4 HA3 HNL
      obtain ⟨a4, k4, rfl⟩ := ho4.shape
      obtain ⟨g, hg⟩ : ∃ g, a4 = some ⟨g, 0, none⟩ := by
        obtain ⟨ao', cap', e1, e2⟩ := row_forms ho4
        obtain ⟨g, e3⟩ := e2 (by omega)
        simp only [Value.slice.injEq] at e1
        exact ⟨g, by rw [e1.1]; exact e3⟩
      subst hg
      have HO4 : Hid (Own w4 w3.heap.size (.slice (some ⟨g, 0, none⟩) F.length k4) F) := ho4
      have hcap4 : fl ≤ k4 := by rw [Hfl.out]; exact own_cap ho4
      clear ho4
      rw [← Hfl.out]
      have cf := HO4.out.at rfl j hj
      have e0 : F.getD j 0 = cc := by rw [Hcc.out]; simp [hj]
      rw [e0] at cf
      clear e0
      obtain ⟨c0, f0⟩ := cf
      have hxo := flip_val cc x
      obtain ⟨d, Hd⟩ : ∃ d, Hid (d = cc ^^^ x) := ⟨_, rfl⟩
      rw [← Hd.out] at hxo HFE
      have HO5 : Hid (Own (w4.setCell ⟨g, j, none⟩ (.int .u8 (d.toNat : Int))) w3.heap.size (.slice (some ⟨g, 0, none⟩) F.length k4) (F.set j d)) := HO4.out.stored rfl j d
      have HB5 : Hid (Below w.heap.size w (w4.setCell ⟨g, j, none⟩ (.int .u8 (d.toNat : Int)))) := HB4.out.setCell (p := ⟨g, j, none⟩) (Nat.le_trans HB3.out.size (HO4.out.lt g rfl).1) _
      have HDC : Hid (Calls Tryz.prog 18 #[.slice (some ⟨g, 0, none⟩) fl k4] (w4.setCell ⟨g, j, none⟩ (.int .u8 (d.toNat : Int))) fun e w' => e = .returned (.tuple #[.agg #[.int .u64 0, .slice none 0 0], .int .i64 0, .int .i64 132]) ∧ Below (w4.setCell ⟨g, j, none⟩ (.int .u8 (d.toNat : Int))).heap.size (w4.setCell ⟨g, j, none⟩ (.int .u8 (d.toNat : Int))) w') := by
        have h6 : (F.set j d).length = fl := by rw [List.length_set, Hfl.out]
        have := decode_bad (some ⟨g, 0, none⟩) k4 (F.set j d) (w4.setCell ⟨g, j, none⟩ (.int .u8 (d.toNat : Int))) (by rw [h6]; omega) (by rw [h6]; exact hcap4) (by
          have := HO5.out
          rw [show F.length = (F.set j d).length from (List.length_set ..).symm] at this
          exact this.bytes) (by rw [HFE.out]; decide)
        rw [h6, HFE.out] at this
        exact this
      clear HO5 HO4 HFE Hd Hcc HB4 hx0 hk0 HO3
      clear hj
      go_wp2_with fail
      refine HDC.out.mono ?_
      rintro e w6 ⟨rfl, hb6⟩
      have HB6 : Hid (Below w.heap.size w w6) := HB5.out.trans (hb6.mono HB5.out.size)
      clear hb6 HDC HB5 hxo c0 f0
      have HB7 : Hid (Below w.heap.size w (w6.alloc (.cells #[.int .u64 0, .slice none 0 0] 31))) := HB6.out.alloc HB6.out.size _
      go_wp2
      go_ret
      exact ⟨rfl, HB7.out⟩
end Go.Proofs.YtmkohdepgfahnaaGreatDoor
