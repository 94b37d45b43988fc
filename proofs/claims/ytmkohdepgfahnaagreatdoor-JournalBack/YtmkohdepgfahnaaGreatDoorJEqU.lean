import Derived.Test.YtmkohdepgfahnaaGreatDoorJReadW
import Derived.Test.YtmkohdepgfahnaaGreatDoorJDecE
import Derived.Test.YtmkohdepgfahnaaGreatDoorJEqT
import Derived.BigQuiet
import Derived.Deep.QuietTactic
/- Layer 13 (journal): Decode of a frame that is taken. -/
namespace Go.Proofs.YtmkohdepgfahnaaGreatDoor
open Go.RowKit
set_option linter.unusedVariables false

def DecA (w : World) (l : List UInt8) (e : Ending) (w' : World) : Prop := ∃ ao c l', e = .returned (.tuple #[.agg #[.int .u64 (readI (payP l) : Nat), .slice ao l'.length c], .int .i64 (((payP l).length + 9 : Nat) : Int), .int .i64 0]) ∧ ops l' = (readO (payP l)).1 ∧ OwnO w' w.heap.size (.slice ao l'.length c) l' ∧ Below w.heap.size w w'
set_option maxRecDepth 100000 in
set_option maxHeartbeats 2000000 in
theorem decode_ok (ao : Option Addr) (cap : Nat) (l : List UInt8) (w : World) (hv : Vs w) (hl : l.length ≤ 140737488455328) (hcap : l.length ≤ cap) (h : BAt w ao l) (he : payE l = 0) (hp : (payP l).length ≤ 131072) (hk : readOk (payP l) = true) :
    Calls Tryz.prog 18 #[.slice ao l.length cap] w fun e w' => DecA w l e w' := by
  obtain ⟨wx, Hwx⟩ : ∃ x, Hid (x = w.alloc (.cells #[.int .u64 0, .slice none 0 0] 31)) := ⟨_, rfl⟩
  have HB : Hid (Below w.heap.size w wx) := by rw [Hwx.out]; exact below_new w _
  have HX : Hid (Blk wx w.heap.size #[.int .u64 0, .slice none 0 0] 31) := by rw [Hwx.out]; exact Blk.new _ _ _
  have HC : Hid (Calls Tryz.prog 30 #[.slice ao l.length cap] wx fun e w' => PayA wx l e w') := payloadOf_calls ao cap l wx hl hcap (h.below HB.out)
  have HV : Hid (Vs w) := hv
  have HE : Hid (payE l = 0) := he
  have HK : Hid (readOk (payP l) = true) := hk
  clear h hv he hk
  obtain ⟨n, Hn⟩ : ∃ x, Hid (x = l.length) := ⟨_, rfl⟩
  rw [← Hn.out] at HC hl hcap ⊢
  go_enter Tryz.func18, Tryz.ntmps18
  go_upto_region 1 with fail
  rw [← Hwx.out]
  clear Hwx
  go_wp2_with fail
  refine HC.out.mono ?_
  rintro e w2 ⟨a2, n2, c2, rfl, hpay, hd⟩
  obtain ⟨hn2, hc2, hb2, x2, y2, rfl, hx2⟩ := hpay HE.out
  rw [HE.out]
  have hbd : Below wx.heap.size wx w2 := by obtain ⟨m, rfl⟩ := hd; exact below_draws _ _
  have HB2 : Hid (Below w.heap.size w w2) := HB.out.trans (hbd.mono HB.out.size)
  have HX2 : Hid (Blk w2 w.heap.size #[.int .u64 0, .slice none 0 0] 31) := HX.out.below hbd
  obtain ⟨p, Hp⟩ : ∃ x, Hid (x = payP l) := ⟨_, rfl⟩
  rw [← Hp.out] at hn2 hb2 hp HK
  subst hn2
  have HRC : Hid (Calls Tryz.prog 31 #[.slice (some ⟨x2, y2, none⟩) p.length c2] w2 fun e w' => ReadA w2 p e w') := readPayload_calls x2 y2 c2 p w2 (HV.out.stay HB2.out) hp hc2 hb2 (by have := hbd.size; omega)
  clear hd hbd HC HX HB hb2 hpay
  obtain ⟨pl, Hpl⟩ : ∃ x, Hid (x = p.length) := ⟨_, rfl⟩
  rw [← Hpl.out] at HRC hp hc2 ⊢
  go_wp2_with fail
  refine HRC.out.mono ?_
  rintro e w3 ⟨-, hok, hb3⟩
  obtain ⟨a3, k3, l3, rfl, hops, hown⟩ := hok HK.out
  have HB3 : Hid (Below w.heap.size w w3) := HB2.out.trans (hb3.mono HB2.out.size)
  have HX3 : Hid (Blk w3 w.heap.size #[.int .u64 0, .slice none 0 0] 31) := HX2.out.below hb3
  have HO3 : Hid (OwnO w3 w.heap.size (.slice a3 l3.length k3) l3) := ⟨row_weak HB2.out.size hown.row, fun x hx => row_weak HB2.out.size (hown.tags x hx)⟩
  have HOP : Hid (ops l3 = (readO p).1) := hops
  obtain ⟨i, Hi⟩ : ∃ x, Hid (x = readI p) := ⟨_, rfl⟩
  obtain ⟨n3, Hn3⟩ : ∃ x, Hid (x = l3.length) := ⟨_, rfl⟩
  rw [← Hi.out]
  rw [← Hn3.out] at HO3 ⊢
  clear hok hb3 hown hops HRC HX2
  have hsz3 : w.heap.size < w3.heap.size := HX3.out.lt
  obtain ⟨w4, Hw4⟩ : ∃ x, Hid (x = w3.alloc (.cells #[.int .u64 (i : Nat), .slice a3 n3 k3] 31)) := ⟨_, rfl⟩
  obtain ⟨g7, Hg7⟩ : ∃ x, Hid (x = w3.heap.size) := ⟨_, rfl⟩
  have HX4 : Hid (Blk w4 w.heap.size #[.int .u64 0, .slice none 0 0] 31) := by rw [Hw4.out]; exact HX3.out.alloc _
  have HE4 : Hid (Blk w4 g7 #[.int .u64 (i : Nat), .slice a3 n3 k3] 31) := by rw [Hw4.out, Hg7.out]; exact Blk.new _ _ _
  have HB4 : Hid (Below w.heap.size w w4) := by rw [Hw4.out]; exact HB3.out.alloc HB3.out.size _
  have HO4 : Hid (OwnO w4 w.heap.size (.slice a3 n3 k3) l3) := by rw [Hw4.out]; exact HO3.out.below (below_new _ _)
  go_upto_region 5 with fail
  rw [← Hw4.out, ← Hg7.out]
  clear Hw4 Hg7 HX3 HB3 HO3 hsz3
  have y0 := HX4.out.cell 0 rfl
  have y1 := HX4.out.cell 1 rfl
  have f0 := HX4.out.open 0
  have f1 := HX4.out.open 1
  have e0 := HE4.out.cell 0 rfl
  have e1 := HE4.out.cell 1 rfl
  obtain ⟨we, Hwe⟩ : ∃ x, Hid (x = putC w4 w.heap.size 0 [.int .u64 (i : Nat), .slice a3 n3 k3]) := ⟨_, rfl⟩
  have HY5 : Hid (Blk we w.heap.size #[.int .u64 (i : Nat), .slice a3 n3 k3] 31) := by rw [Hwe.out]; exact putC_all HX4.out rfl
  have HB5 : Hid (Below w.heap.size w we) := by rw [Hwe.out]; exact putC_below _ _ _ HB4.out (Nat.le_refl _)
  have HO5 : Hid (OwnO we w.heap.size (.slice a3 n3 k3) l3) := by
    rw [Hwe.out]
    exact ⟨row_putK HX4.out (by decide) HO4.out.row _ _, fun x hx => row_putK HX4.out (by decide) (HO4.out.tags x hx) _ _⟩
  have HLd : Hid ((loadVar 31 ⟨w.heap.size, 0, none⟩).run Tryz.prog we = .ok (.agg #[.int .u64 (i : Nat), .slice a3 n3 k3]) we) := load_ent HY5.out rfl
  have HFin : Hid (DecA w l (.returned (.tuple #[.agg #[.int .u64 (i : Nat), .slice a3 n3 k3], .int .i64 (5 + (pl : Int) + 4), .int .i64 0])) we) := by
    refine ⟨a3, k3, l3, ?_, by rw [← Hp.out]; exact HOP.out, by rw [← Hn3.out]; exact HO5.out, HB5.out⟩
    rw [← Hp.out, ← Hi.out, ← Hn3.out, ← Hpl.out]
    rw [show (5 + (pl : Int) + 4) = ((pl + 9 : Nat) : Int) by omega]
  go_wp2
  change bodyPost _ _ _ _ _ (putC w4 w.heap.size 0 [.int .u64 (i : Nat), .slice a3 n3 k3])
  rw [← Hwe.out]
  exact ret_box3 (g := w.heap.size) (w := we) rfl rfl rfl rfl rfl HLd.out HFin.out
end Go.Proofs.YtmkohdepgfahnaaGreatDoor

/- Layer 13 (journal): the document's SameTexts. -/
namespace Go.Proofs.YtmkohdepgfahnaaGreatDoor
open Go.RowKit
set_option linter.unusedVariables false
set_option linter.unusedSimpArgs false

set_option maxRecDepth 100000 in
set_option maxHeartbeats 1000000 in
theorem sameTx_calls (ao bo : Option Addr) (ca cb : Nat) (l m : List ByteArray) (w : World) (hl : l.length ≤ 140737488355328) (hm : m.length ≤ 140737488355328) (ha : CellsAt w ao (l.map Value.string)) (hb : CellsAt w bo (m.map Value.string)) :
    Calls Tryz.prog 58 #[.slice ao l.length ca, .slice bo m.length cb] w fun e w' => e = .returned (.bool (decide (l = m))) ∧ ∃ n, w' = w.drewN n := by
  obtain ⟨R, HR⟩ : ∃ R, Hid (R = decide (l = m)) := ⟨_, rfl⟩
  rw [← HR.out]
  by_cases hlen : l.length = m.length
  · have hq : ((l.length : Int) != (m.length : Int)) = false := by simp; omega
    obtain ⟨n, Hn⟩ : ∃ n, Hid (n = m.length) := ⟨_, rfl⟩
    rw [← Hn.out] at hlen hm hq ⊢
    obtain ⟨n', Hn'⟩ : ∃ n', Hid (n' = l.length) := ⟨_, rfl⟩
    rw [← Hn'.out] at hlen hl hq ⊢
    subst hlen
    go_enter Tryz.func58, Tryz.ntmps58
    go_wp2
    go_loopw [5] (fun i wr => ∃ k : Nat, k ≤ n' ∧ i = .int .i64 k ∧ Hid (∀ j (h1 : j < l.length) (h2 : j < m.length), j < k → l[j] = m[j]) ∧ ∃ q, wr = w.drewN q) (fun i _ => n' - (intOf i).toNat)
    case atStart => exact ⟨0, Nat.zero_le _, rfl, fun _ _ _ h => absurd h (Nat.not_lt_zero _), 0, rfl⟩
    case round =>
      obtain ⟨k, hk, rfl, HS, hdq⟩ := hrel
      have HQ : Hid (∃ q, wr = w.drewN q) := hdq
      have hbw : Below w.heap.size w wr := by obtain ⟨q, rfl⟩ := hdq; exact below_draws w q
      have HQ2 : Hid (∀ n, ∃ q, wr.drewN n = w.drewN q) := by intro n; obtain ⟨q, rfl⟩ := hdq; exact ⟨_, World.drewN_drewN _ _ _⟩
      clear hdq
      by_cases hlt : k < n'
      · have k1 : k < l.length := by rw [← Hn'.out]; exact hlt
        have k2 : k < m.length := by rw [← Hn.out]; exact hlt
        obtain ⟨b, off, rfl, hc⟩ := (ha.below hbw).str k k1
        obtain ⟨b2, off2, rfl, hc2⟩ := (hb.below hbw).str k k2
        obtain ⟨c, Hc⟩ : ∃ c, Hid (c = l[k]'k1) := ⟨_, rfl⟩
        obtain ⟨d, Hd⟩ : ∃ d, Hid (d = m[k]'k2) := ⟨_, rfl⟩
        rw [← Hc.out] at hc
        rw [← Hd.out] at hc2
        by_cases he : c = d
        · have HS2 : Hid (∀ j (h1 : j < l.length) (h2 : j < m.length), j < k + 1 → l[j] = m[j]) := by
            intro j h1 h2 h3
            by_cases hj : j = k
            · subst hj
              have := Hc.out.symm.trans (he.trans Hd.out)
              exact this
            · exact HS.out j h1 h2 (by omega)
          clear Hc Hd HS k1 k2
          subst he
          have hqq : (c.toList == c.toList) = true := beq_self_eq_true _
          go_wp2_with fail
          go_quiet (fail)
          go_wp2
          go_roundw
          case rel => exact ⟨k + 1, by omega, by go_num, HS2, HQ2.out _⟩
          case measure => simp [intOf]; omega
        · have HF : Hid (R = false) := by
            show _ = _
            rw [HR.out]
            exact txt_no k1 k2 (by rw [← Hc.out, ← Hd.out]; exact he)
          have hqq : (c.toList == d.toList) = false := by rw [beq_toList]; simpa using he
          clear Hc Hd HS k1 k2
          go_wp2_with fail
          go_quiet (fail)
          go_wp2
          go_ret
          exact ⟨by rw [HF.out]; rfl, HQ2.out _⟩
      · have HT : Hid (R = true) := by
          show _ = _
          rw [HR.out, decide_eq_true_eq]
          exact txt_yes (by rw [← Hn.out, ← Hn'.out]) fun j h1 h2 => HS.out j h1 h2 (by rw [← Hn'.out] at h1; omega)
        go_wp2
        go_ret
        exact ⟨by rw [HT.out]; rfl, HQ.out⟩
  · have HF : Hid (R = false) := by
      show _ = _
      rw [HR.out, decide_eq_false_iff_not]
      intro e
      subst e
      exact hlen rfl
    have hq : ((l.length : Int) != (m.length : Int)) = true := by simp; omega
    obtain ⟨n, Hn⟩ : ∃ n, Hid (n = m.length) := ⟨_, rfl⟩
    obtain ⟨n', Hn'⟩ : ∃ n', Hid (n' = l.length) := ⟨_, rfl⟩
    rw [← Hn.out] at hq ⊢
    rw [← Hn'.out] at hq ⊢
    clear hlen
    go_enter Tryz.func58, Tryz.ntmps58
    go_wp2
    go_ret
    exact ⟨by rw [HF.out]; rfl, 0, rfl⟩
end Go.Proofs.YtmkohdepgfahnaaGreatDoor
