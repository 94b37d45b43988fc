import Derived.Test.YtieonnnlhhdfpaaGreatDoorRcSameT
import Derived.Test.YtieonnnlhhdfpaaGreatDoorJPayOf
import Derived.Test.YtieonnnlhhdfpaaGreatDoorRcOpL
import Derived.Test.YtieonnnlhhdfpaaGreatDoorJRPay
import Derived.Test.YtieonnnlhhdfpaaGreatDoorJRSound
import Derived.Test.YtieonnnlhhdfpaaGreatDoorJRopH
import Derived.Test.YtieonnnlhhdfpaaGreatDoorJTxs
/- Layer 13 (journal): the document's Framed. -/
namespace Go.Proofs.YtieonnnlhhdfpaaGreatDoor
open Go.RowKit
set_option linter.unusedVariables false

set_option maxRecDepth 100000 in
set_option maxHeartbeats 1000000 in
theorem framed_calls (ao : Option Addr) (cap : Nat) (p : List UInt8) (w : World) (hl : p.length ≤ 131072) (h : BAt w ao p) :
    Calls Tryz.prog 21 #[.slice ao p.length cap] w fun e w' => ∃ v', e = .returned v' ∧ Own w' w.heap.size v' (frameB p) ∧ Below w.heap.size w w' := by
  have HBA : Hid (BAt w ao p) := h
  have HSM : Hid (∀ W, BAt W ao p → Calls Tryz.prog 29 #[.slice ao p.length cap] W fun e w' => e = .returned (.int .u32 (sumB p)) ∧ w' = W) := fun W hW => refSum_calls ao cap p W (by omega) hW
  clear h
  obtain ⟨n, Hn⟩ : ∃ x, Hid (x = p.length) := ⟨_, rfl⟩
  rw [← Hn.out] at hl HSM ⊢
  obtain ⟨w1, Hw1⟩ : ∃ x, Hid (x = w.alloc (.cells #[.int .u8 77] 5)) := ⟨_, rfl⟩
  have HO1 : Hid (Own w1 w.heap.size (.slice (some ⟨w.heap.size, 0, none⟩) 1 1) [77]) := by
    rw [Hw1.out]
    exact World.ownsRow_lit (size := 1) w #[.int .u8 77] 1 (Nat.le_refl _) (by unfold maxLen; omega) rfl
  have HB1 : Hid (Below w.heap.size w w1) := by rw [Hw1.out]; exact below_new w _
  have HW1 : Hid (w1.heap.size = w.heap.size + 1) := by show _ = _; rw [Hw1.out, size_new]
  go_enter Tryz.func21, Tryz.ntmps21
  go_wp2_with fail
  rw [← Hw1.out]
  clear Hw1
  have hwr : IntKind.u64.wrap (n : Int) = (n : Int) := by
    show (n : Int) % 18446744073709551616 = _
    omega
  refine (rbig_calls (n : Int) 4 w1 (by omega) (by omega) (by omega)).mono ?_
  rintro e w2 ⟨c2, rfl, ho2, hb2⟩
  have HO2 : Hid (Own w2 w.heap.size (.slice (some ⟨w.heap.size, 0, none⟩) 1 1) [77]) := HO1.out.below hb2
  have HB2 : Hid (Below w.heap.size w w2) := HB1.out.trans (hb2.mono HB1.out.size)
  have HA2 : Hid (CellsAt w2 (some ⟨w1.heap.size, 0, none⟩) (bs (big 4 (n : Int)))) := ho2.bytes
  clear hb2 ho2 HO1 HB1
  have HL4 : Hid ((bs (big 4 (n : Int))).length = 4 * 1) := by show _ = _; rw [bs_length, big_length]
  go_wp2_with (at_builtin; refine append_src _ rfl (.tmp 4) (.tmp 8) 28 5 (.int .u8 0) 1 1 Tryz.underlying28 info_u8 rfl (by decide) rfl w.heap.size _ 1 (bs [77]) rfl HO2.out (some ⟨w1.heap.size, 0, none⟩) 4 c2 (bs (big 4 (n : Int))) rfl HL4.out HA2.out (bs_one _) (by unfold maxLen; omega) (by omega) HB2.out.size ?_)
  intro v3 w3 ho3 hg3
  have HB3 : Hid (Below w.heap.size w w3) := HB2.out.trans (hg3.toBelow HB2.out.size fun q hq => (HO2.out.lt q hq).1)
  have HO3 : Hid (w3.ownsRow w.heap.size 5 1 v3 5 (bs [77] ++ bs (big 4 (n : Int)))) := ho3
  clear ho3 hg3 HO2 HB2 HA2 HL4
  have HA3 : Hid (CellsAt w3 ao (bs p)) := (show CellsAt w ao (bs p) from HBA.out).below HB3.out
  have HLP : Hid ((bs p).length = n * 1) := by show _ = _; rw [bs_length, Hn.out, Nat.mul_one]
  go_wp2_with (at_builtin; refine append_src _ rfl (.tmp 10) (.tmp 11) 28 5 (.int .u8 0) 1 1 Tryz.underlying28 info_u8 rfl (by decide) rfl w.heap.size _ 5 (bs [77] ++ bs (big 4 (n : Int))) rfl HO3.out ao n cap (bs p) rfl HLP.out HA3.out (bs_one _) (by unfold maxLen; omega) (by omega) HB3.out.size ?_)
  intro v4 w4 ho4 hg4
  have HB4 : Hid (Below w.heap.size w w4) := HB3.out.trans (hg4.toBelow HB3.out.size fun q hq => (World.ownsRow.lt HO3.out q hq).1)
  have HO4 : Hid (w4.ownsRow w.heap.size 5 1 v4 (5 + n) (bs [77] ++ bs (big 4 (n : Int)) ++ bs p)) := ho4
  clear ho4 hg4 HO3 HB3 HA3 HLP
  have HA4 : Hid (BAt w4 ao p) := (show CellsAt w ao (bs p) from HBA.out).below HB4.out
  go_wp2_with fail
  refine (HSM.out w4 HA4.out).mono ?_
  rintro e w5 ⟨rfl, rfl⟩
  obtain ⟨S, HS⟩ : ∃ x, Hid (x = sumB p) := ⟨_, rfl⟩
  rw [← HS.out]
  have hS : S < 4294967296 := by rw [HS.out]; exact sumB_lt p
  have hwS : IntKind.u64.wrap (S : Int) = (S : Int) := by
    show (S : Int) % 18446744073709551616 = _
    omega
  clear HSM HA4
  go_wp2_with fail
  refine (rbig_calls (S : Int) 4 w5 (by omega) (by omega) (by omega)).mono ?_
  rintro e w6 ⟨c6, rfl, ho6, hb6⟩
  have HO6 : Hid (w6.ownsRow w.heap.size 5 1 v4 (5 + n) (bs [77] ++ bs (big 4 (n : Int)) ++ bs p)) := row_below HO4.out hb6
  have HB6 : Hid (Below w.heap.size w w6) := HB4.out.trans (hb6.mono HB4.out.size)
  have HA6 : Hid (CellsAt w6 (some ⟨w5.heap.size, 0, none⟩) (bs (big 4 (S : Int)))) := ho6.bytes
  clear hb6 ho6 HO4 HB4
  have HL6 : Hid ((bs (big 4 (S : Int))).length = 4 * 1) := by show _ = _; rw [bs_length, big_length]
  go_wp2_with (at_builtin; refine append_src _ rfl (.tmp 13) (.tmp 17) 28 5 (.int .u8 0) 1 1 Tryz.underlying28 info_u8 rfl (by decide) rfl w.heap.size _ (5 + n) (bs [77] ++ bs (big 4 (n : Int)) ++ bs p) rfl HO6.out (some ⟨w5.heap.size, 0, none⟩) 4 c6 (bs (big 4 (S : Int))) rfl HL6.out HA6.out (bs_one _) (by unfold maxLen; omega) (by omega) HB6.out.size ?_)
  intro v7 w7 ho7 hg7
  have HB7 : Hid (Below w.heap.size w w7) := HB6.out.trans (hg7.toBelow HB6.out.size fun q hq => (World.ownsRow.lt HO6.out q hq).1)
  have HF : Hid (Own w7 w.heap.size v7 (frameB p)) := by
    have e1 : frameB p = [77] ++ big 4 (n : Int) ++ p ++ big 4 (S : Int) := by rw [Hn.out, HS.out]; rfl
    unfold Own
    rw [e1, bs_append, bs_append, bs_append]
    have e2 : ([77] ++ big 4 (n : Int) ++ p ++ big 4 (S : Int) : List UInt8).length = 5 + n + 4 := by simp [big_length, ← Hn.out]; omega
    rw [e2]
    exact ho7
  clear ho7 hg7
  go_wp2
  go_ret
  exact ⟨_, rfl, HF.out, HB7.out⟩
end Go.Proofs.YtieonnnlhhdfpaaGreatDoor

/- Layer 13 (journal): the document's Encode. -/
namespace Go.Proofs.YtieonnnlhhdfpaaGreatDoor
open Go.RowKit
set_option linter.unusedVariables false

set_option maxRecDepth 100000 in
set_option maxHeartbeats 1000000 in
theorem rencode_calls (i : Int) (ao : Option Addr) (c : Nat) (l : List OV) (w : World) (h0 : 0 ≤ i) (h1 : i ≤ 18446744073709551615) (hl : l.length ≤ 140737488355328) (hok : ∀ x ∈ l, x.ok) (hna : ∀ x ∈ l, x.o.node.addr.size ≤ 1048576) (hr : ∀ x ∈ l, x.o.rng) (hat : OpsAt w ao l) :
    Calls Tryz.prog 8 #[.agg #[.int .u64 i, .slice ao l.length c]] w fun e w' => ∃ v', e = .returned (.tuple #[v', .int .i64 (encE (ops l))]) ∧ Own w' w.heap.size v' (encB i (ops l)) ∧ Below w.heap.size w w' := by
  have HS : Hid (∀ W, Below w.heap.size w W → Calls Tryz.prog 16 #[.agg #[.int .u64 i, .slice ao l.length c]] W fun e w' => e = .returned (.bool (soundB (ops l))) ∧ Below W.heap.size W w') := fun W hW => rsound_calls i ao c l W hl hok hna (hat.below hW)
  have HP : Hid (soundB (ops l) = true → ∀ W, Below w.heap.size w W → Calls Tryz.prog 22 #[.agg #[.int .u64 i, .slice ao l.length c]] W fun e w' => ∃ v', e = .returned v' ∧ Own w' W.heap.size v' (payB i (ops l)) ∧ Below W.heap.size W w') := fun hs W hW => rpayload_calls i ao c l W h0 h1 hs hr (hat.below hW)
  have HL : Hid (soundB (ops l) = true → (payB i (ops l)).length ≤ 78793) := fun hs => payB_le hs
  clear hok hna hr hat
  obtain ⟨E, HEE⟩ : ∃ x, Hid (x = encE (ops l)) := ⟨_, rfl⟩
  obtain ⟨Z, HZZ⟩ : ∃ x, Hid (x = encB i (ops l)) := ⟨_, rfl⟩
  rw [← HEE.out, ← HZZ.out]
  obtain ⟨n, Hn⟩ : ∃ x, Hid (x = l.length) := ⟨_, rfl⟩
  rw [← Hn.out] at hl HS HP ⊢
  obtain ⟨wx, Hwx⟩ : ∃ x, Hid (x = w.alloc (.cells #[.int .u64 i, .slice ao n c] 25)) := ⟨_, rfl⟩
  have HX : Hid (Blk wx w.heap.size #[.int .u64 i, .slice ao n c] 25) := by rw [Hwx.out]; exact Blk.new _ _ _
  have HB : Hid (Below w.heap.size w wx) := by rw [Hwx.out]; exact below_new w _
  go_enter Tryz.func8, Tryz.ntmps8
  go_upto_region 1 with fail
  rw [← Hwx.out]
  clear Hwx
  have c0 := HX.out.cell 0 rfl
  have c1 := HX.out.cell 1 rfl
  go_wp2_with fail
  refine (HS.out wx HB.out).mono ?_
  rintro e w1 ⟨rfl, hb1⟩
  have HB1 : Hid (Below w.heap.size w w1) := HB.out.trans (hb1.mono HB.out.size)
  have HX1 : Hid (Blk w1 w.heap.size #[.int .u64 i, .slice ao n c] 25) := HX.out.below hb1
  clear hb1 HS HX HB c0 c1
  cases hs : soundB (ops l) with
  | false =>
    have HE : Hid (E = 130 ∧ Z = []) := by rw [HEE.out, HZZ.out]; unfold encE encB; rw [hs]; exact ⟨rfl, rfl⟩
    clear hs HP HL
    go_wp2
    go_ret2
    exact ⟨.slice none 0 0, by rw [HE.out.1]; rfl, by rw [HE.out.2]; exact Own.nil _ _, HB1.out⟩
  | true =>
    have HE : Hid (E = 0 ∧ Z = frameB (payB i (ops l))) := by rw [HEE.out, HZZ.out]; unfold encE encB; rw [hs]; exact ⟨rfl, rfl⟩
    have HP2 := HP.out hs w1 HB1.out
    have HL2 := HL.out hs
    have HPC : Hid (Calls Tryz.prog 22 #[.agg #[.int .u64 i, .slice ao n c]] w1 fun e w' => ∃ v', e = .returned v' ∧ Own w' w1.heap.size v' (payB i (ops l)) ∧ Below w1.heap.size w1 w') := HP2
    clear hs HP HL HP2
    obtain ⟨p, Hp⟩ : ∃ x, Hid (x = payB i (ops l)) := ⟨_, rfl⟩
    rw [← Hp.out] at HPC HL2 HE
    clear Hp
    have c0 := HX1.out.cell 0 rfl
    have c1 := HX1.out.cell 1 rfl
    go_wp2_with fail
    refine HPC.out.mono ?_
    rintro e w2 ⟨v2, rfl, ho2, hb2⟩
    have HB2 : Hid (Below w.heap.size w w2) := HB1.out.trans (hb2.mono HB1.out.size)
    obtain ⟨a2, k2, rfl⟩ := ho2.shape
    have HFC : Hid (Calls Tryz.prog 21 #[.slice a2 p.length k2] w2 fun e w' => ∃ v', e = .returned v' ∧ Own w' w2.heap.size v' (frameB p) ∧ Below w2.heap.size w2 w') := framed_calls a2 k2 p w2 (by omega) ho2.bytes
    clear hb2 HPC HX1 c0 c1 ho2
    obtain ⟨pl, Hpl⟩ : ∃ x, Hid (x = p.length) := ⟨_, rfl⟩
    rw [← Hpl.out] at HFC ⊢
    clear Hpl
    go_wp2_with fail
    refine HFC.out.mono ?_
    rintro e w3 ⟨v3, rfl, ho3, hb3⟩
    have HB3 : Hid (Below w.heap.size w w3) := HB2.out.trans (hb3.mono HB2.out.size)
    have HO3 : Hid (Own w3 w.heap.size v3 (frameB p)) := row_weak HB2.out.size ho3
    clear hb3 ho3 HFC
    go_wp2
    go_ret2
    exact ⟨v3, by rw [HE.out.1]; rfl, by rw [HE.out.2]; exact HO3.out, HB3.out⟩
end Go.Proofs.YtieonnnlhhdfpaaGreatDoor

/- Layer 13 (journal): Decode of bytes whose frame is refused. -/
namespace Go.Proofs.YtieonnnlhhdfpaaGreatDoor
open Go.RowKit
set_option linter.unusedVariables false

theorem ret_box3 {fn : Func} {R : Ending → World → Prop} {a : Act} {w : World} {g : Nat} {cs : Array Value} {T : TypeId} {e1 e2 : Value} (hres : fn.results = #[.cell 2 T, .tmp 3, .tmp 4]) (ht : a.tmps.getD 2 undef = .pointer (some ⟨g, 0, none⟩)) (h3 : a.tmps.getD 3 undef = e1) (h4 : a.tmps.getD 4 undef = e2) (hd : a.defers = [])
    (hl : (loadVar T ⟨g, 0, none⟩).run Tryz.prog w = .ok (.agg cs) w) (hR : R (.returned (.tuple #[.agg cs, e1, e2])) w) : bodyPost Tryz.prog fn R .ret a w := by
  refine bodyPost_ret ?_ hd hR
  have ht' : a.tmps[2]?.getD undef = .pointer (some ⟨g, 0, none⟩) := by simpa using ht
  have h3' : a.tmps[3]?.getD undef = e1 := by simpa using h3
  have h4' : a.tmps[4]?.getD undef = e2 := by simpa using h4
  simp [results, hres, ht', h3', h4', asAddr, hl]

set_option maxRecDepth 100000 in
set_option maxHeartbeats 2000000 in
theorem decode_bad (ao : Option Addr) (cap : Nat) (l : List UInt8) (w : World) (hl : l.length ≤ 140737488455328) (hcap : l.length ≤ cap) (h : BAt w ao l) (hne : ¬ payE l = 0) :
    Calls Tryz.prog 13 #[.slice ao l.length cap] w fun e w' => e = .returned (.tuple #[.agg #[.int .u64 0, .slice none 0 0], .int .i64 0, .int .i64 (payE l)]) ∧ Below w.heap.size w w' := by
  obtain ⟨wx, Hwx⟩ : ∃ x, Hid (x = w.alloc (.cells #[.int .u64 0, .slice none 0 0] 25)) := ⟨_, rfl⟩
  have HB : Hid (Below w.heap.size w wx) := by rw [Hwx.out]; exact below_new w _
  have HX : Hid (Blk wx w.heap.size #[.int .u64 0, .slice none 0 0] 25) := by rw [Hwx.out]; exact Blk.new _ _ _
  have HC := payloadOf_calls ao cap l wx hl hcap (h.below HB.out)
  have HC : Hid (Calls Tryz.prog 31 #[.slice ao l.length cap] wx fun e w' => PayA wx l e w') := HC
  obtain ⟨pe, Hpe⟩ : ∃ x, Hid (x = payE l) := ⟨_, rfl⟩
  rw [← Hpe.out] at hne ⊢
  clear h
  have q0 : (pe != 0) = true := by simpa using hne
  go_enter Tryz.func13, Tryz.ntmps13
  go_upto_region 1 with fail
  rw [← Hwx.out]
  clear Hwx
  go_wp2_with fail
  refine HC.out.mono ?_
  rintro e w2 ⟨a2, n2, c2, rfl, -, hd⟩
  rw [← Hpe.out]
  have hb2 : Below wx.heap.size wx w2 := by obtain ⟨m, rfl⟩ := hd; exact below_draws _ _
  have HB2 : Hid (Below w.heap.size w w2) := HB.out.trans (hb2.mono HB.out.size)
  have HX2 : Hid (Blk w2 w.heap.size #[.int .u64 0, .slice none 0 0] 25) := HX.out.below hb2
  clear hd hb2 HC HX HB
  have y0 := HX2.out.cell 0 rfl
  have y1 := HX2.out.cell 1 rfl
  have f0 := HX2.out.open 0
  have f1 := HX2.out.open 1
  obtain ⟨w5, Hw5⟩ : ∃ x, Hid (x = putC w2 w.heap.size 0 [.int .u64 0, .slice none 0 0]) := ⟨_, rfl⟩
  have HY5 : Hid (Blk w5 w.heap.size #[.int .u64 0, .slice none 0 0] 25) := by rw [Hw5.out]; exact putC_all HX2.out rfl
  have HB5 : Hid (Below w.heap.size w w5) := by rw [Hw5.out]; exact putC_below _ _ _ HB2.out (Nat.le_refl _)
  have HLd : Hid ((loadVar 25 ⟨w.heap.size, 0, none⟩).run Tryz.prog w5 = .ok (.agg #[.int .u64 0, .slice none 0 0]) w5) := load_ent HY5.out rfl
  go_wp2
  change bodyPost _ _ _ _ _ (putC w2 w.heap.size 0 [.int .u64 0, .slice none 0 0])
  rw [← Hw5.out]
  exact ret_box3 (g := w.heap.size) (w := w5) rfl rfl rfl rfl rfl HLd.out ⟨rfl, HB5.out⟩
end Go.Proofs.YtieonnnlhhdfpaaGreatDoor

/- Layer 13 (journal): JournalTells, the walk. -/
namespace Go.Proofs.YtieonnnlhhdfpaaGreatDoor
open Go.RowKit
set_option linter.unusedVariables false

/-- What an entry's operations must be for a call of the laws. -/
structure EntOk (i : Int) (l : List OV) : Prop where
  i0 : 0 ≤ i
  i1 : i ≤ 18446744073709551615
  len : l.length * 256 ≤ 140737488355328
  ok : ∀ x ∈ l, x.ok
  rng : ∀ x ∈ l, x.o.rng
  tags : ∀ x ∈ l, x.o.svc.tags.length ≤ 8796093022207
theorem ops_mem {l l' : List OV} (h : ops l' = ops l) {P : Opp → Prop} (hp : ∀ x ∈ l, P x.o) : ∀ x ∈ l', P x.o := fun x hx => by
  have : x.o ∈ ops l' := List.mem_map.2 ⟨x, hx, rfl⟩
  rw [h] at this
  obtain ⟨y, hy, e⟩ := List.mem_map.1 this
  rw [← e]
  exact hp y hy
theorem ops_len {l l' : List OV} (h : ops l' = ops l) : l'.length = l.length := by
  have := congrArg List.length h
  simpa [ops] using this
theorem EntOk.copy {i : Int} {l l' : List OV} (h : EntOk i l) (e : ops l' = ops l) : EntOk i l' :=
  ⟨h.i0, h.i1, by rw [ops_len e]; exact h.len, fun x hx => ⟨ops_mem e (P := fun o => o.small) (fun y hy => (h.ok y hy).small) x hx, ops_mem e (P := fun o => o.svc.tags.length ≤ 140737488355328) (fun y hy => (h.ok y hy).len) x hx⟩, ops_mem e (P := fun o => o.rng) h.rng, ops_mem e (P := fun o => o.svc.tags.length ≤ 8796093022207) h.tags⟩
theorem own_cap {w : World} {B n cap : Nat} {ao : Option Addr} {l : List UInt8} (h : Own w B (.slice ao n cap) l) : l.length ≤ cap := by
  rcases h.2 with ⟨e, h0⟩ | ⟨g, cap', cur, e, _, _, hnc, _⟩
  · omega
  · simp only [Value.slice.injEq] at e
    obtain ⟨_, _, rfl⟩ := e
    exact hnc
/-- Encode of a copy of an entry. -/
theorem encCopy_calls (i : Int) (l : List OV) (l' : List OV) (ao : Option Addr) (c : Nat) (w : World) (hv : Vs w) (h : EntOk i l) (e : ops l' = ops l) (hat : OpsAt w ao l') :
    Calls Tryz.prog 9 #[.agg #[.int .u64 i, .slice ao l'.length c]] w fun e w' => ∃ v', e = .returned (.tuple #[v', .int .i64 (encE (ops l))]) ∧ Own w' w.heap.size v' (encB i (ops l)) ∧ Below w.heap.size w w' := by
  have k := h.copy e
  have := jencode_calls i ao c l' w k.i0 k.i1 hv (by have := k.len; omega) k.ok k.rng hat
  rw [e] at this
  exact this

end Go.Proofs.YtieonnnlhhdfpaaGreatDoor

/- Layer 13 (journal): readPayload, the walk. -/
namespace Go.Proofs.YtieonnnlhhdfpaaGreatDoor
open Go.RowKit
set_option linter.unusedVariables false

/-- What readPayload answers. -/
def ReadA (w : World) (p : List UInt8) (e : Ending) (w' : World) : Prop :=
  (readOk p = false → e = .returned (.tuple #[.agg #[.int .u64 0, .slice none 0 0], .bool false])) ∧
  (readOk p = true → ∃ ao c l', e = .returned (.tuple #[.agg #[.int .u64 (readI p : Nat), .slice ao l'.length c], .bool true]) ∧ ops l' = (readO p).1 ∧ OwnO w' w.heap.size (.slice ao l'.length c) l') ∧ Below w.heap.size w w'

set_option maxRecDepth 100000 in
set_option maxHeartbeats 4000000 in
theorem readPayload_calls (b off cap : Nat) (p : List UInt8) (w : World) (hv : Vs w) (hl : p.length ≤ 131072) (hcap : p.length ≤ cap) (hbt : BAt w (some ⟨b, off, none⟩) p) (hb : b < w.heap.size) :
    Calls Tryz.prog 32 #[.slice (some ⟨b, off, none⟩) p.length cap] w fun e w' => ReadA w p e w' := by
  have HV : Hid (Vs w) := hv
  obtain ⟨n0, Hn0⟩ : ∃ x, Hid (x = p.length) := ⟨_, rfl⟩
  obtain ⟨W0, HW0⟩ : ∃ x, Hid (x = (w.alloc (.cells #[.int .u64 0, .slice none 0 0] 25)).alloc (.cells #[.slice (some ⟨b, off, none⟩) n0 cap, .bool false] 92)) := ⟨_, rfl⟩
  have hz : (w.alloc (.cells #[.int .u64 0, .slice none 0 0] 25)).heap.size = w.heap.size + 1 := size_new _ _
  have hs0 : W0.heap.size = w.heap.size + 2 := by rw [HW0.out, size_new, hz]
  have HX : Hid (Blk W0 w.heap.size #[.int .u64 0, .slice none 0 0] 25) := by rw [HW0.out]; exact (Blk.new _ _ _).alloc _
  have HB0 : Hid (Below w.heap.size w W0) := by rw [HW0.out]; exact (below_new w _).alloc (by rw [hz]; omega) _
  have HR0 : Hid (RdAt W0 (w.heap.size + 1) (p, false)) := by
    refine ⟨b, off, cap, ?_, hcap, hbt.below HB0.out, by omega⟩
    rw [HW0.out, ← Hn0.out, ← hz]
    exact Blk.new _ _ _
  clear hz hbt hv
  rw [← Hn0.out]
  have HC : Hid (Calls Tryz.prog 45 #[.pointer (some ⟨w.heap.size + 1, 0, none⟩), .int .i64 8] W0 fun e w' => NumA W0 (w.heap.size + 1) 8 (p, false) e w') := number_calls (w.heap.size + 1) (p, false) 8 W0 (by show p.length ≤ _; omega) (by omega) HR0.out
  go_enter Tryz.func32, Tryz.ntmps32
  go_upto_region 2 with fail
  rw [← HW0.out]
  clear HW0
  go_wp2_with fail
  refine HC.out.mono ?_
  rintro e w1 ⟨rfl, hr1⟩
  obtain ⟨rb, Hrb⟩ : ∃ x, Hid (x = w.heap.size + 1) := ⟨_, rfl⟩
  rw [← Hrb.out] at hr1 ⊢
  obtain ⟨i, Hi⟩ : ∃ x, Hid (x = readI p) := ⟨_, rfl⟩
  have hir : i ≤ 18446744073709551615 := by
    have := unbigK_le 8 (p, false)
    rw [Hi.out]
    unfold readI
    omega
  rw [show unbig (tkB 8 (p, false)) = i from Hi.out.symm]
  obtain ⟨s1, Hs1⟩ : ∃ x, Hid (x = tkS 8 (p, false)) := ⟨_, rfl⟩
  have hl1 : s1.1.length ≤ 131072 := by rw [Hs1.out]; exact Nat.le_trans (tkS_len 8 _) hl
  rw [← Hs1.out] at hr1
  have HX1 : Hid (Blk w1 w.heap.size #[.int .u64 0, .slice none 0 0] 25) := HX.out.grown hr1.grown (by rw [Hrb.out]; omega)
  have HB1 : Hid (Below w.heap.size w w1) := below_grown1 HB0.out (Nat.le_refl _) (by rw [Hrb.out]; omega) hr1.grown
  have hsz1 : W0.heap.size ≤ w1.heap.size := hr1.grown.size
  obtain ⟨w2, Hw2⟩ : ∃ x, Hid (x = w1.alloc (.cells #[.int .u64 (i : Nat), .slice none 0 0] 25)) := ⟨_, rfl⟩
  obtain ⟨ge, Hge⟩ : ∃ x, Hid (x = w1.heap.size) := ⟨_, rfl⟩
  have HG : Hid (RpG w W0 rb w.heap.size ge) := ⟨by rw [Hrb.out]; omega, by rw [Hrb.out]; omega, Nat.le_refl _, by omega, by rw [Hrb.out]; omega, by rw [Hge.out]; exact hsz1, by omega⟩
  have HI2 : Hid (RpI w W0 rb w.heap.size ge (i : Nat) (.slice none 0 0) [] s1 w2) := by
    rw [Hw2.out, Hge.out]
    exact ⟨hr1.below (below_new _ _), Blk.new _ _ _, HX1.out.alloc _, ⟨World.ownsRow_nil _ _ _ _, fun x hx => by cases hx⟩, HB1.out.trans ((below_new _ _).mono HB1.out.size), by omega⟩
  have HC3 : Hid (Calls Tryz.prog 46 #[.pointer (some ⟨rb, 0, none⟩)] w2 fun e w' => SmlA w2 rb s1 e w') := small_calls rb s1 w2 HI2.out.len HI2.out.rd.at'
  clear hr1 HC HX HB0 HR0 HX1 HB1
  dsimp only
  go_upto_region 3 with fail
  rw [← Hw2.out, ← Hge.out]
  clear Hw2 Hge
  go_wp2_with fail
  refine HC3.out.mono ?_
  rintro e w3 ⟨rfl, hr3⟩
  obtain ⟨g2, Hg2⟩ : ∃ x, Hid (x = w.heap.size) := ⟨_, rfl⟩
  obtain ⟨N, HN⟩ : ∃ x, Hid (x = smlB s1) := ⟨_, rfl⟩
  have hN : N < 256 := by rw [HN.out]; exact smlB_lt _
  rw [← HN.out]
  obtain ⟨s2, Hs2⟩ : ∃ x, Hid (x = tkS 1 s1) := ⟨_, rfl⟩
  have HI3 : Hid (RpI w W0 rb w.heap.size ge (i : Nat) (.slice none 0 0) [] s2 w3) := by rw [Hs2.out]; exact HI2.out.read HG.out (tkS_len 1 s1) hr3
  have HRO : Hid (readO p = opsP N s2) := by
    show _ = _
    unfold readO readN
    rw [← Hs1.out, ← HN.out, ← Hs2.out]
  have HOK : Hid (∀ k, (∀ o ∈ (opsP k s2).1, o.small ∧ o.svc.tags.length ≤ 255 ∧ o.rng) ∧ (opsP k s2).1.length = k ∧ (opsP k s2).2.1.length ≤ s2.1.length) := fun k => opsP_ok k s2
  rw [← Hg2.out] at HI3 HG ⊢
  clear hr3 HC3 HI2 Hs2 HN Hs1 hl1 hsz1 hs0
  go_wp2_with fail
  go_loopw [14] (fun j wr => ∃ (k : Nat) (v : Value) (m : List OV), k ≤ N ∧ j = .int .i64 k ∧ m.length = k ∧ Hid (ops m = (opsP k s2).1) ∧ Hid (RpI w W0 rb g2 ge (i : Nat) v m (opsP k s2).2 wr)) (fun j _ => N - (intOf j).toNat)
  case atStart => exact ⟨0, .slice none 0 0, [], Nat.zero_le _, rfl, rfl, rfl, HI3⟩
  case round =>
    obtain ⟨k, v, m, hk, rfl, hml, HM, HI⟩ := hrel
    clear HI3
    obtain ⟨va, vc, hvf⟩ := HI.out.own.shape
    rw [hml] at hvf
    subst hvf
    by_cases hlt : k < N
    · obtain ⟨sk, Hsk⟩ : ∃ x, Hid (x = (opsP k s2).2) := ⟨_, rfl⟩
      have HS1 : Hid ((opsP (k + 1) s2).2 = (opP sk).2) := by rw [Hsk.out]; rfl
      have HM1 : Hid (∀ z : OV, z.o = (opP sk).1 → ops (m ++ [z]) = (opsP (k + 1) s2).1) := fun z hz => by
        have : ops (m ++ [z]) = ops m ++ [z.o] := by simp [ops]
        rw [this, HM.out, hz, Hsk.out]
        rfl
      rw [← Hsk.out] at HI
      have HID : Hid (RpI w W0 rb g2 ge (i : Nat) (.slice va k vc) m sk wr.drew) := HI.out.below (drew_below wr)
      have HCALL : Hid (Calls Tryz.prog 47 #[.pointer (some ⟨rb, 0, none⟩)] wr.drew fun e w' => RopA wr.drew rb sk e w') := rop_calls rb sk wr.drew HID.out.len HID.out.rd.at'
      have q0 : wr.cell? ⟨ge, 1, none⟩ = some (.slice va k vc) := HI.out.e.cell 1 rfl
      have qd : wr.drew.cell? ⟨ge, 1, none⟩ = some (.slice va k vc) := HID.out.e.cell 1 rfl
      clear HI Hsk HM
      go_upto_region 5 with fail
      go_region_law
        (first
          | (refine step_append_ov (.tmp 17) (.tmp 20) ⟨⟨kd, ⟨nn, na, n3, n4⟩, ⟨sn, si, sm, sp, tg, s6, s7⟩, ⟨cn, ci, cs, ct, ce, c6, c7⟩, cas, wt⟩, ta, tc⟩ w5 rfl (by rfl) (by rfl) (by rfl) HO5.out (by rfl) (by omega) hB5 ?_
             intro v7 w7 ho7 hg7
             obtain ⟨a7, k7, rfl, -⟩ := row_forms ho7
             have HI8 : Hid (RpI w W0 rb g2 ge (i : Nat) (.slice a7 (k + 1) k7) (m ++ [⟨⟨kd, ⟨nn, na, n3, n4⟩, ⟨sn, si, sm, sp, tg, s6, s7⟩, ⟨cn, ci, cs, ct, ce, c6, c7⟩, cas, wt⟩, ta, tc⟩]) (opP sk).2 (w7.setCell ⟨ge, 1, none⟩ (.slice a7 (k + 1) k7))) := HI5.out.pushK hml HG.out HZT.out ho7 hg7
             have HE7 : Hid (Blk w7 ge #[.int .u64 (i : Nat), .slice va k vc] 25) := row_grewB HI5.out.e HI5.out.own.row hg7 (by decide)
             have q8 : w7.cell? ⟨ge, 1, none⟩ = some (.slice va k vc) := HE7.out.cell 1 rfl
             have f8 := HE7.out.open 1
             clear ho7 hg7)
          | (go_simp
             go_at_call 47
             refine HCALL.out.mono ?_
             rintro e w5 ⟨tv, rfl, hrow, hr⟩
             have HI5 : Hid (RpI w W0 rb g2 ge (i : Nat) (.slice va k vc) m (opP sk).2 w5) := HID.out.read HG.out (opP_len sk) hr
             obtain ⟨o5, Ho5⟩ : ∃ x, Hid (x = (opP sk).1) := ⟨_, rfl⟩
             rw [← Ho5.out] at hrow ⊢
             obtain ⟨kd, ⟨nn, na, n3, n4⟩, ⟨sn, si, sm, sp, tg, s6, s7⟩, ⟨cn, ci, cs, ct, ce, c6, c7⟩, cas, wt⟩ := o5
             obtain ⟨ta, tc, rfl, -⟩ := row_forms hrow
             have HZT : Hid (TagO w5 W0.heap.size ⟨⟨kd, ⟨nn, na, n3, n4⟩, ⟨sn, si, sm, sp, tg, s6, s7⟩, ⟨cn, ci, cs, ct, ce, c6, c7⟩, cas, wt⟩, ta, tc⟩) := row_weak HID.out.rd.grown.size hrow
             simp only [Opp.v]
             have HO5 : Hid (w5.ownsRow W0.heap.size 58 21 (.slice va k vc) k (ocs m)) := own_row hml HI5.out.own
             have hB5 : W0.heap.size ≤ w5.heap.size := HI5.out.rd.grown.size
             have q5 : w5.cell? ⟨ge, 1, none⟩ = some (.slice va k vc) := HI5.out.e.cell 1 rfl
             have q6 : (w5.alloc (.cells (OV.v ⟨⟨kd, ⟨nn, na, n3, n4⟩, ⟨sn, si, sm, sp, tg, s6, s7⟩, ⟨cn, ci, cs, ct, ce, c6, c7⟩, cas, wt⟩, ta, tc⟩) 58)).cell? ⟨ge, 1, none⟩ = some (.slice va k vc) := (HI5.out.e.alloc _).cell 1 rfl
             simp only [OV.v, Opp.v] at q6
             clear hrow hr))
      all_goals
        have HI9 : Hid (RpI w W0 rb g2 ge (i : Nat) (.slice a7 (k + 1) k7) (m ++ [⟨⟨kd, ⟨nn, na, n3, n4⟩, ⟨sn, si, sm, sp, tg, s6, s7⟩, ⟨cn, ci, cs, ct, ce, c6, c7⟩, cas, wt⟩, ta, tc⟩]) (opsP (k + 1) s2).2 (w7.setCell ⟨ge, 1, none⟩ (.slice a7 (k + 1) k7))) := by rw [HS1.out]; exact HI8.out
        have HM9 : Hid (ops (m ++ [⟨⟨kd, ⟨nn, na, n3, n4⟩, ⟨sn, si, sm, sp, tg, s6, s7⟩, ⟨cn, ci, cs, ct, ce, c6, c7⟩, cas, wt⟩, ta, tc⟩]) = (opsP (k + 1) s2).1) := HM1.out _ Ho5.out
        have hml9 : (m ++ [(⟨⟨kd, ⟨nn, na, n3, n4⟩, ⟨sn, si, sm, sp, tg, s6, s7⟩, ⟨cn, ci, cs, ct, ce, c6, c7⟩, cas, wt⟩, ta, tc⟩ : OV)]).length = k + 1 := by simp [hml]
        clear HI8 HE7 HI5 HZT HO5 hB5 HID HCALL HM1 HS1
        go_wp2
        go_roundw
        case rel => exact ⟨k + 1, .slice a7 (k + 1) k7, m ++ [⟨⟨kd, ⟨nn, na, n3, n4⟩, ⟨sn, si, sm, sp, tg, s6, s7⟩, ⟨cn, ci, cs, ct, ce, c6, c7⟩, cas, wt⟩, ta, tc⟩], by omega, by go_num, hml9, HM9, HI9⟩
        case measure => simp [intOf]; omega
    · obtain rfl : k = N := by omega
      obtain ⟨b', off', cap', hblk, hc', hbt', -⟩ := HI.out.rd.at'.mem
      have x1 : wr.cell? ⟨rb, 1, none⟩ = some (.bool (opsP k s2).2.2) := hblk.cell 1 rfl
      have x0 : wr.cell? ⟨rb, 0, none⟩ = some (.slice (some ⟨b', off', none⟩) (opsP k s2).2.1.length cap') := hblk.cell 0 rfl
      have HRK : Hid (readOk p = (!(opsP k s2).2.2 && decide ((opsP k s2).2.1.length = 0) && soundB (ops m))) := by
        show _ = _
        unfold readOk
        rw [HRO.out, ← HM.out]
      have hl2 : (opsP k s2).2.1.length ≤ 140737488355328 := HI.out.len
      obtain ⟨od, Hod⟩ : ∃ x, Hid (x = (opsP k s2).2.2) := ⟨_, rfl⟩
      obtain ⟨rl, Hrl⟩ : ∃ x, Hid (x = (opsP k s2).2.1.length) := ⟨_, rfl⟩
      rw [← Hod.out] at x1 HRK
      rw [← Hrl.out] at x0 HRK hl2
      clear hblk hc' hbt' Hod Hrl
      cases od with
      | true =>
        have HKF : Hid (readOk p = false) := by show _ = _; rw [HRK.out]; rfl
        obtain ⟨we, Hwe⟩ : ∃ x, Hid (x = putC wr g2 0 [.int .u64 0, .slice none 0 0]) := ⟨_, rfl⟩
        have HY5 : Hid (Blk we g2 #[.int .u64 0, .slice none 0 0] 25) := by rw [Hwe.out]; exact putC_all HI.out.z rfl
        have HB5 : Hid (Below w.heap.size w we) := by rw [Hwe.out]; exact putC_below _ _ _ HI.out.bl (by rw [Hg2.out]; exact Nat.le_refl _)
        have HLd : Hid ((loadVar 25 ⟨g2, 0, none⟩).run Tryz.prog we = .ok (.agg #[.int .u64 0, .slice none 0 0]) we) := load_ent HY5.out rfl
        have y0 := HI.out.z.cell 0 rfl
        have y1 := HI.out.z.cell 1 rfl
        have f0 := HI.out.z.open 0
        have f1 := HI.out.z.open 1
        go_wp2
        change bodyPost _ _ _ _ _ (putC wr g2 0 [.int .u64 0, .slice none 0 0])
        rw [← Hwe.out]
        exact ret_box (g := g2) (w := we) rfl rfl rfl rfl HLd.out ⟨fun _ => rfl, fun h => absurd (HKF.out.symm.trans h) (by decide), HB5.out⟩
      | false =>
        by_cases hrl : 0 < rl
        · have q1 : (0 : Int) < (rl : Int) := by omega
          have HKF : Hid (readOk p = false) := by show _ = _; rw [HRK.out]; rw [show decide (rl = 0) = false from by simp; omega]; rfl
          obtain ⟨we, Hwe⟩ : ∃ x, Hid (x = putC wr g2 0 [.int .u64 0, .slice none 0 0]) := ⟨_, rfl⟩
          have HY5 : Hid (Blk we g2 #[.int .u64 0, .slice none 0 0] 25) := by rw [Hwe.out]; exact putC_all HI.out.z rfl
          have HB5 : Hid (Below w.heap.size w we) := by rw [Hwe.out]; exact putC_below _ _ _ HI.out.bl (by rw [Hg2.out]; exact Nat.le_refl _)
          have HLd : Hid ((loadVar 25 ⟨g2, 0, none⟩).run Tryz.prog we = .ok (.agg #[.int .u64 0, .slice none 0 0]) we) := load_ent HY5.out rfl
          have y0 := HI.out.z.cell 0 rfl
          have y1 := HI.out.z.cell 1 rfl
          have f0 := HI.out.z.open 0
          have f1 := HI.out.z.open 1
          go_wp2
          change bodyPost _ _ _ _ _ (putC wr g2 0 [.int .u64 0, .slice none 0 0])
          rw [← Hwe.out]
          exact ret_box (g := g2) (w := we) rfl rfl rfl rfl HLd.out ⟨fun _ => rfl, fun h => absurd (HKF.out.symm.trans h) (by decide), HB5.out⟩
        · obtain rfl : rl = 0 := by omega
          have HSC : Hid (Calls Tryz.prog 23 #[.agg (entV (i : Nat) va k vc)] wr fun e w' => e = .returned (.bool (soundB (ops m))) ∧ Below wr.heap.size wr w') := by
            have hmem : ∀ x ∈ m, x.o.small ∧ x.o.svc.tags.length ≤ 255 ∧ x.o.rng := fun x hx => (HOK.out k).1 x.o (by rw [← HM.out]; exact List.mem_map.2 ⟨x, hx, rfl⟩)
            have hat : OpsAt wr va m := by
              have := HI.out.own
              rw [← hml] at this
              exact this.at
            have := isSound_calls (i : Nat) va vc m wr (HV.out.stay HI.out.bl) (by omega) (fun x hx => ⟨(hmem x hx).1, by have := (hmem x hx).2.1; omega⟩) hat
            rw [hml] at this
            exact this
          have e0 : wr.cell? ⟨ge, 0, none⟩ = some (.int .u64 (i : Nat)) := HI.out.e.cell 0 rfl
          have e1 : wr.cell? ⟨ge, 1, none⟩ = some (.slice va k vc) := HI.out.e.cell 1 rfl
          go_wp2_with fail
          refine HSC.out.mono ?_
          rintro e w9 ⟨rfl, hb9⟩
          have HJ : Hid (RpI w W0 rb g2 ge (i : Nat) (.slice va k vc) m (opsP k s2).2 w9) := HI.out.below hb9
          obtain ⟨sd, Hsd⟩ : ∃ x, Hid (x = soundB (ops m)) := ⟨_, rfl⟩
          rw [← Hsd.out] at HRK ⊢
          clear hb9 HSC HI x0 x1 e0 e1
          cases sd with
          | false =>
            have HKF : Hid (readOk p = false) := by show _ = _; rw [HRK.out]; rfl
            obtain ⟨we, Hwe⟩ : ∃ x, Hid (x = putC w9 g2 0 [.int .u64 0, .slice none 0 0]) := ⟨_, rfl⟩
            have HY5 : Hid (Blk we g2 #[.int .u64 0, .slice none 0 0] 25) := by rw [Hwe.out]; exact putC_all HJ.out.z rfl
            have HB5 : Hid (Below w.heap.size w we) := by rw [Hwe.out]; exact putC_below _ _ _ HJ.out.bl (by rw [Hg2.out]; exact Nat.le_refl _)
            have HLd : Hid ((loadVar 25 ⟨g2, 0, none⟩).run Tryz.prog we = .ok (.agg #[.int .u64 0, .slice none 0 0]) we) := load_ent HY5.out rfl
            have y0 := HJ.out.z.cell 0 rfl
            have y1 := HJ.out.z.cell 1 rfl
            have f0 := HJ.out.z.open 0
            have f1 := HJ.out.z.open 1
            go_wp2
            change bodyPost _ _ _ _ _ (putC w9 g2 0 [.int .u64 0, .slice none 0 0])
            rw [← Hwe.out]
            exact ret_box (g := g2) (w := we) rfl rfl rfl rfl HLd.out ⟨fun _ => rfl, fun h => absurd (HKF.out.symm.trans h) (by decide), HB5.out⟩
          | true =>
            have HKT : Hid (readOk p = true) := by show _ = _; rw [HRK.out]; rfl
            obtain ⟨we, Hwe⟩ : ∃ x, Hid (x = putC w9 g2 0 [.int .u64 (i : Nat), .slice va k vc]) := ⟨_, rfl⟩
            have HY5 : Hid (Blk we g2 #[.int .u64 (i : Nat), .slice va k vc] 25) := by rw [Hwe.out]; exact putC_all HJ.out.z rfl
            have HB5 : Hid (Below w.heap.size w we) := by rw [Hwe.out]; exact putC_below _ _ _ HJ.out.bl (by rw [Hg2.out]; exact Nat.le_refl _)
            have HO5 : Hid (OwnO we w.heap.size (.slice va k vc) m) := by
              rw [Hwe.out]
              exact ⟨row_weak HG.out.w0 (row_putK HJ.out.z (by decide) HJ.out.own.row _ _), fun x hx => row_weak HG.out.w0 (row_putK HJ.out.z (by decide) (HJ.out.own.tags x hx) _ _)⟩
            have HLd : Hid ((loadVar 25 ⟨g2, 0, none⟩).run Tryz.prog we = .ok (.agg #[.int .u64 (i : Nat), .slice va k vc]) we) := load_ent HY5.out rfl
            have HFin : Hid (ReadA w p (.returned (.tuple #[.agg #[.int .u64 (i : Nat), .slice va k vc], .bool true])) we) := by
              refine ⟨fun h => absurd (HKT.out.symm.trans h) (by decide), fun _ => ⟨va, vc, m, by rw [Hi.out, hml], by rw [HM.out, HRO.out], by rw [hml]; exact HO5.out⟩, HB5.out⟩
            have y0 := HJ.out.z.cell 0 rfl
            have y1 := HJ.out.z.cell 1 rfl
            have f0 := HJ.out.z.open 0
            have f1 := HJ.out.z.open 1
            have e0 : w9.cell? ⟨ge, 0, none⟩ = some (.int .u64 (i : Nat)) := HJ.out.e.cell 0 rfl
            have e1 : w9.cell? ⟨ge, 1, none⟩ = some (.slice va k vc) := HJ.out.e.cell 1 rfl
            go_wp2
            change bodyPost _ _ _ _ _ (putC w9 g2 0 [.int .u64 (i : Nat), .slice va k vc])
            rw [← Hwe.out]
            exact ret_box (g := g2) (w := we) rfl rfl rfl rfl HLd.out HFin.out
end Go.Proofs.YtieonnnlhhdfpaaGreatDoor
