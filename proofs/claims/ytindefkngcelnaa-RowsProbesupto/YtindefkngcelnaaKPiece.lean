/- The walk of appendPiece. -/
import Derived.Test.YtindefkngcelnaaKText
namespace Go.Proofs.Ytindefkngcelnaa
open Go.RowKit
set_option linter.unusedVariables false

/-- A part's piece; open: a text without its end. -/
def piece (p : Pt) (op : Bool) : List UInt8 :=
  if p.k == 1 then 1 :: (esc p.t.data.toList ++ if op then [] else [0, 1]) else if p.k == 2 then 2 :: num8 p.n else [3, UInt8.ofNat p.n.toNat]

theorem piece_length (p : Pt) (op : Bool) : (piece p op).length ≤ 2 * p.t.size + 9 := by
  unfold piece
  have := (esc_length p.t.data.toList).2
  have h2 : p.t.data.toList.length = p.t.size := by simp
  split
  · cases op <;> simp <;> omega
  · split <;> simp [num8]

theorem vld_cases {p : Pt} (h : vldB p = true) : (p.k = 1 ∧ p.n = 0) ∨ (p.k = 2 ∧ p.t.toList = []) ∨ (p.k = 3 ∧ p.t.toList = [] ∧ (p.n = 0 ∨ p.n = 1)) := by
  unfold vldB at h
  split at h
  · exact .inl ⟨eq_of_beq ‹_›, by simpa using h⟩
  · split at h
    · exact .inr (.inl ⟨eq_of_beq ‹_›, by simpa using h⟩)
    · refine .inr (.inr ?_); simpa using h

set_option maxHeartbeats 1000000 in
theorem appendPiece_calls (B : Nat) (v : Value) (l : List UInt8) (k n : Int) (t : ByteArray) (op : Bool) (w : World) (hown : Own w B v l) (hB : B ≤ w.heap.size) (hl : l.length + 2 * t.size ≤ 140737488354000)
    (hv : vldB ⟨k, t, n⟩ = true) (hn0 : 0 ≤ n) (hn1 : n ≤ 18446744073709551615) :
    Calls Try.prog 68 #[v, .agg #[.int .i64 k, .string t, .int .u64 n], .bool op] w fun e w' => ∃ v', e = .returned v' ∧ Own w' B v' (l ++ piece ⟨k, t, n⟩ op) ∧ Grew w w' v v' := by
  have hlt := hown.lt
  rcases vld_cases hv with ⟨hk, hn⟩ | ⟨hk, ht⟩ | ⟨hk, ht, hn⟩
  · simp only at hk hn
    subst hk hn
    clear hv
    go_enter Try.func68, Try.ntmps68
    go_wp2_with (at_builtin; refine append_lit _ rfl (.tmp 7) (.tmp 11) rfl B _ l rfl [1] _ 1 1 _ rfl rfl rfl (by simp) (hown.alloc _) (by omega) (by simp; omega) ?_)
    intro v1 w1 ho1 hg1
    obtain ⟨hc0, hc1, hc2⟩ := hown.box hg1
    have hs1 := hg1.size
    simp at hs1
    go_wp2_with fail
    refine (appendText_calls B v1 (l ++ [1]) t _ ho1 (by omega) (by simp; omega)).mono ?_
    rintro e w2 ⟨v2, rfl, ho2, hg2⟩
    have hs2 := hg2.size
    have hg3 := hg1.ofAlloc.trans hg2
    clear hc0 hc1 hc2 hg1 hg2 ho1
    cases op with
    | true =>
      go_wp2
      go_ret
      exact ⟨_, rfl, by simpa [piece] using ho2, hg3⟩
    | false =>
      have hle := (esc_length t.data.toList).2
      have hsz : t.data.toList.length = t.size := by simp
      go_wp2_with (at_builtin; refine append_lit _ rfl (.tmp 23) (.tmp 24) rfl B _ _ rfl [0, 1] _ 2 2 _ rfl rfl rfl (by simp) ho2 (by simp; omega) (by omega) ?_)
      intro v3 w3 ho3 hg4
      have hg5 := hg3.trans hg4
      clear ho2 hg3 hg4
      go_wp2
      go_ret
      exact ⟨_, rfl, by simpa [piece] using ho3, hg5⟩
  · simp only at hk ht
    subst hk
    clear hv
    go_enter Try.func68, Try.ntmps68
    go_wp2_with (at_builtin; refine append_lit _ rfl (.tmp 7) (.tmp 11) rfl B _ l rfl [2] _ 1 1 _ rfl rfl rfl (by simp) (hown.alloc _) (by omega) (by simp; omega) ?_)
    intro v1 w1 ho1 hg1
    obtain ⟨hc0, hc1, hc2⟩ := hown.box hg1
    have hs1 := hg1.size
    simp at hs1
    go_wp2_with fail
    refine (appendNum_calls B v1 (l ++ [2]) n _ ho1 (by omega) (by simp; omega) hn0 hn1).mono ?_
    rintro e w2 ⟨v2, rfl, ho2, hg2⟩
    have hg3 := hg1.ofAlloc.trans hg2
    clear hc0 hc1 hc2 hg1 hg2 ho1
    go_wp2
    go_ret
    exact ⟨_, rfl, by simpa [piece] using ho2, hg3⟩
  · simp only at hk ht hn
    subst hk
    clear hv
    have hlit : Hid (#[Value.int IntKind.u8 n] = (bs [UInt8.ofNat n.toNat]).toArray) := by rcases hn with rfl | rfl <;> rfl
    have hle : n ≤ 1 := by omega
    clear hn
    go_enter Try.func68, Try.ntmps68
    go_wp2_with (at_builtin; refine append_lit _ rfl (.tmp 7) (.tmp 11) rfl B _ l rfl [3] _ 1 1 _ rfl rfl rfl (by simp) (hown.alloc _) (by omega) (by simp; omega) ?_)
    intro v1 w1 ho1 hg1
    obtain ⟨hc0, hc1, hc2⟩ := hown.box hg1
    have hs1 := hg1.size
    simp at hs1
    go_wp2_with (at_builtin; refine append_lit _ rfl (.tmp 34) (.tmp 38) rfl B _ _ rfl [UInt8.ofNat n.toNat] _ 1 1 _ rfl rfl hlit.out (by simp) ho1 (by simp; omega) (by omega) ?_)
    intro v2 w2 ho2 hg2
    have hg3 := hg1.ofAlloc.trans hg2
    clear hc0 hc1 hc2 hg1 hg2 ho1
    go_wp2
    go_ret
    exact ⟨_, rfl, by simpa [piece] using ho2, hg3⟩
end Go.Proofs.Ytindefkngcelnaa
