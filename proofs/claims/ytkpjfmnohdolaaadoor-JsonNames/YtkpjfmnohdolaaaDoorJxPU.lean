/- Layer 18 (json): strconv.ParseUint of four hexadecimal digits, numbered. -/
import Derived.Test.YtkpjfmnohdolaaaDoorJxHex
import Derived.Test.YtkpjfmnohdolaaaDoorRgV
namespace Go.Proofs.YtkpjfmnohdolaaaDoor
open Go.RowKit Go.Sort
set_option linter.unusedVariables false

theorem var_cell {P : Program} {w : World} {n : String} {g : Nat} {v : Value} (h : w.var? P n = some #[v]) (hg : P.globalNamed n = some g) : w.cell? ⟨g, 0, none⟩ = some v := by
  unfold World.var? at h
  rw [hg] at h
  simp only [Option.bind_some] at h
  cases hb : w.heap[g]? with
  | none => rw [hb] at h; cases h
  | some o =>
    rw [hb] at h
    cases o with
    | cells cs t =>
      simp at h
      subst h
      simp [World.cell?, hb]
    | _ => simp at h
/-- What the second answer is. -/
def EvR (r : Option Nat) (ev : Value) : Prop := match r with
  | some _ => ev = .nilIface
  | none => ∃ t p, ev = .iface t p
/-- What ParseUint answers. -/
def PuV (x : ByteArray) (v : Value) : Prop := ∃ u ev, v = .tuple #[.int .u64 u, ev] ∧ (∀ m : Nat, hexF 0 x.data.toList = some m → u = m) ∧ EvR (hexF 0 x.data.toList) ev
set_option maxRecDepth 100000 in
set_option maxHeartbeats 1000000 in
theorem parseUint_calls (w : World) (x : ByteArray) (hx : x.size = 4) (hv : Vs w) :
    Calls Tryd.prog 96 #[.string x, .int .i64 16, .int .i64 7] w fun e w' => (∃ v, e = .returned v ∧ PuV x v) ∧ Below w.heap.size w w' := by
  have HI := intPU_calls w x hx
  have HV : Hid (Vs w) := hv
  clear hv
  cases hr : hexF 0 x.data.toList with
  | some m =>
    have HR : Hid (hexF 0 x.data.toList = some m) := hr
    unfold PuI at HI
    rw [hr] at HI
    clear hr
    go_enter Tryd.func96, Tryd.ntmps96
    go_wp2_with fail
    refine HI.mono ?_
    clear HI
    rintro e w1 ⟨hb1, rfl⟩
    go_wp2
    go_ret2
    have HP : PuV x (.tuple #[.int .u64 (m : Int), .nilIface]) := by
      refine ⟨_, _, rfl, fun k hk => ?_, ?_⟩
      · rw [HR.out] at hk; cases hk; rfl
      · rw [HR.out]; rfl
    exact ⟨⟨_, rfl, HP⟩, hb1⟩
  | none =>
    have HR : Hid (hexF 0 x.data.toList = none) := hr
    unfold PuI at HI
    rw [hr] at HI
    clear hr
    go_enter Tryd.func96, Tryd.ntmps96
    go_wp2_with fail
    refine HI.mono ?_
    clear HI
    rintro e w1 ⟨hb1, u, k, rfl, hk⟩
    obtain ⟨-, ⟨t1, p1, hs1⟩, ⟨t2, p2, hs2⟩⟩ := HV.out.stay hb1
    have HTE : Hid (Calls Tryd.prog 75 #[.string ⟨#[80, 97, 114, 115, 101, 85, 105, 110, 116]⟩, .string x, .int .i64 16, .int .i64 7, .iface 112 (.int .i64 k)] w1 fun e w' => (∃ t p, e = .returned (.iface t p)) ∧ Below w1.heap.size w1 w') := by
      rcases hk with rfl | rfl
      · exact (Tryd.strconv_toError_range _ x 16 7 _ w1 (by omega) (var_cell hs2 (by kernel_rfl)) (.inr ⟨_, _, rfl⟩)).mono fun e w' ⟨N, h1, _, _, h2⟩ => ⟨⟨_, _, h1⟩, h2⟩
      · exact (Tryd.strconv_toError_syntax _ x 16 7 _ w1 (by omega) (var_cell hs1 (by kernel_rfl)) (.inr ⟨_, _, rfl⟩)).mono fun e w' ⟨N, h1, _, _, h2⟩ => ⟨⟨_, _, h1⟩, h2⟩
    have HB1 : Hid (Below w.heap.size w w1) := hb1
    clear hb1 hs1 hs2 hk HV
    go_wp2_with fail
    refine HTE.out.mono ?_
    clear HTE
    rintro e w2 ⟨⟨t, p, rfl⟩, hb2⟩
    go_wp2
    go_ret2
    have HP : PuV x (.tuple #[.int .u64 u, .iface t p]) := by
      refine ⟨_, _, rfl, fun k hk => ?_, ?_⟩
      · rw [HR.out] at hk; cases hk
      · rw [HR.out]; exact ⟨_, _, rfl⟩
    exact ⟨⟨_, rfl, HP⟩, HB1.out.trans (hb2.mono HB1.out.size)⟩
end Go.Proofs.YtkpjfmnohdolaaaDoor
