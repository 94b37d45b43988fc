/- Layer 7 (rows): the document's put, walked. -/
import Derived.Test.YtjbnbpclelbohaaRwPut
import Derived.Test.YtjbnbpclelbohaaKLess
namespace Go.Proofs.Ytjbnbpclelbohaa
open Go.RowKit
set_option linter.unusedVariables false
attribute [local go_sem] Oper.semAt_some

theorem keys_push {w : World} {B : Nat} {v : Value} {out : List Bs} {k : Bs} (h : w.ownsRow B 9 1 v (out.length + 1) (out.map encS ++ [.string ⟨k.toArray⟩])) : KeysAt w B v (out ++ [k]) := by
  unfold KeysAt
  rw [List.length_append, List.map_append]
  exact h
theorem less_bs (x k : Bs) : Op.bytesLess (⟨x.toArray⟩ : ByteArray).toList (⟨k.toArray⟩ : ByteArray).toList = decide (x < k) := by
  rw [ByteArray.toList_eq, ByteArray.toList_eq]
  exact bytesLess_eq x k
theorem beq_bs (x k : Bs) : ((⟨x.toArray⟩ : ByteArray).toList == (⟨k.toArray⟩ : ByteArray).toList) = decide (x = k) := by
  rw [ByteArray.toList_eq, ByteArray.toList_eq]
  by_cases h : x = k
  · subst h; simp
  · simp [h]
theorem putR_cons (k x : Bs) (pl : Bool) (l : List Bs) : putR k pl (x :: l) = (if !pl && !decide (x < k) then [k] else []) ++ ((if x = k then [] else [x]) ++ putR k (pl || !decide (x < k)) l) := rfl

set_option maxRecDepth 100000 in
set_option maxHeartbeats 2000000 in
theorem put_calls (ao : Option Addr) (c : Nat) (ks : List Bs) (k : Bs) (w : World) (hl : ks.length ≤ 1000) (hz : ∀ x ∈ ks, x.length ≤ 140737488351232) (hk : k.length ≤ 140737488351232) (h : CellsAt w ao (ks.map encS)) :
    Calls Try.prog 41 #[.slice ao ks.length c, .string ⟨k.toArray⟩] w fun e w' => (∃ a c', e = .returned (.slice a (putR k false ks).length c') ∧ KeysAt w' w.heap.size (.slice a (putR k false ks).length c') (putR k false ks)) ∧ Below w.heap.size w w' := by
  have HC : Hid (CellsAt w ao (ks.map encS)) := h
  have HZ : Hid (∀ x ∈ ks, x.length ≤ 140737488351232) := hz
  clear h hz
  go_enter Try.func41, Try.ntmps41
  go_wp2
  go_loopw [5, 6, 8, 12] (fun v5 v6 v8 i wr => ∃ (n : Nat) (a5 : Option Addr) (c5 : Nat) (out : List Bs) (pl : Bool), n ≤ ks.length ∧ i = .int .i64 n ∧ v5 = .slice a5 out.length c5 ∧ v6 = .bool pl ∧ out.length ≤ 2 * n ∧ Hid (out ++ putR k pl (ks.drop n) = putR k false ks) ∧ Hid (KeysAt wr w.heap.size (.slice a5 out.length c5) out) ∧ Hid (Below w.heap.size w wr)) (fun _ _ _ i _ => ks.length - (intOf i).toNat)
  case atStart => exact ⟨0, _, _, [], false, Nat.zero_le _, rfl, rfl, rfl, Nat.le_refl _, rfl, World.ownsRow_lit (size := 1) w #[] 0 (Nat.le_refl _) (by unfold maxLen; omega) rfl, (Below.refl _ _).alloc (Nat.le_refl _) _⟩
  case round =>
    obtain ⟨n, a5, c5, out, pl, hn, rfl, rfl, rfl, hol, HP, HK, HB⟩ := hrel
    by_cases hlt : n < ks.length
    · obtain ⟨b, off, rfl, c0⟩ : ∃ b off, ao = some ⟨b, off, none⟩ ∧ wr.cell? ⟨b, off + n, none⟩ = some (.string ⟨ks[n].toArray⟩) := by
        obtain ⟨b, off, ha, hc⟩ := (HC.out.below HB.out) (by intro e; have := congrArg List.length e; rw [List.length_map, List.length_nil] at this; omega)
        exact ⟨b, off, ha, hc _ _ (by simp [hlt])⟩
      have HX : Hid (ks[n].length ≤ 140737488351232) := HZ.out _ (List.getElem_mem hlt)
      have HS : Hid (out ++ ((if !pl && !decide (ks[n] < k) then [k] else []) ++ ((if ks[n] = k then [] else [ks[n]]) ++ putR k (pl || !decide (ks[n] < k)) (ks.drop (n + 1)))) = putR k false ks) := by
        rw [Hid, ← putR_cons, ← List.drop_eq_getElem_cons hlt]
        exact HP.out
      clear HP
      generalize ks[n] = x at *
      have hB0 : w.heap.size ≤ wr.heap.size := HB.out.size
      have hbe := beq_bs x k
      cases pl with
      | true =>
        by_cases hxk : x = k
        · have q1 : ((⟨x.toArray⟩ : ByteArray).toList == (⟨k.toArray⟩ : ByteArray).toList) = true := by rw [hbe]; simpa using hxk
          have q2 : (x == k) = true := by simpa using hxk
          clear hbe
          go_wp2
          go_roundw
          case rel => exact ⟨n + 1, a5, c5, out, true, by omega, by go_num, rfl, rfl, by first | omega | (simp; omega), by rw [Hid, ← HS.out]; simp [hxk], HK, HB⟩
          case measure => simp [intOf]; omega
        · have q1 : ((⟨x.toArray⟩ : ByteArray).toList == (⟨k.toArray⟩ : ByteArray).toList) = false := by rw [hbe]; simpa using hxk
          have q2 : (x == k) = false := by simpa using hxk
          clear hbe
          have hr6 : wr.ownsRow w.heap.size 9 1 (.slice a5 out.length c5) out.length (out.map encS) := HK.out
          go_wp2_with (at_builtin; refine append_row _ rfl (.tmp 31) (.tmp 33) _ 9 _ 1 16 Try.underlying39 info_str rfl (by decide) rfl w.heap.size _ out.length _ rfl [.string ⟨x.toArray⟩] rfl (by simp [Value.oneCell']) _ _ rfl rfl rfl hr6 (by omega) (by omega) hB0 ?_)
          intro v6 w6 hq6 hg6
          have HB6 : Hid (Below w.heap.size w w6) := HB.out.trans (hg6.toBelow hB0 fun j hj => (World.ownsRow.lt hr6 j hj).1)
          obtain ⟨out6, ho6⟩ : ∃ o, o = out ++ [x] := ⟨_, rfl⟩
          have HO6 : Hid (out6 = out ++ [x]) := ho6
          have hl6 : out6.length = out.length + 1 := by rw [ho6]; simp
          have HK6 : Hid (KeysAt w6 w.heap.size v6 out6) := by rw [ho6]; exact keys_push hq6
          obtain ⟨a6, c6, rfl, -⟩ := row_forms hq6
          rw [← hl6] at HK6 ⊢
          have hB6 : w.heap.size ≤ w6.heap.size := HB6.out.size
          have hL6 : out6.length ≤ out.length + 1 := by omega
          clear hq6 hg6 hr6 ho6 hl6
          go_wp2
          go_roundw
          case rel => exact ⟨n + 1, a6, c6, out6, true, by omega, by go_num, rfl, rfl, by first | omega | (simp; omega), by rw [Hid, ← HS.out]; rw [HO6.out]; simp [hxk], HK6, HB6⟩
          case measure => simp [intOf]; omega
      | false =>
        have HLC : Hid (Calls Try.prog 59 #[.string ⟨x.toArray⟩, .string ⟨k.toArray⟩] wr fun e w' => e = .returned (.bool (decide (x < k))) ∧ ∃ m, w' = wr.drewN m) := by
          have := less_calls ⟨x.toArray⟩ ⟨k.toArray⟩ wr (by simpa [ByteArray.size] using HX.out) (by simpa [ByteArray.size] using hk)
          rw [less_bs] at this
          exact this
        by_cases hlk : x < k
        · have hxk : ¬ x = k := fun e => by subst e; exact List.lt_irrefl _ hlk
          have hld : decide (x < k) = true := decide_eq_true hlk
          rw [hld] at HLC HS
          have q1 : ((⟨x.toArray⟩ : ByteArray).toList == (⟨k.toArray⟩ : ByteArray).toList) = false := by rw [hbe]; simpa using hxk
          have q2 : (x == k) = false := by simpa using hxk
          clear hbe hld
          go_wp2_with fail
          refine HLC.out.mono ?_
          clear HLC
          rintro e w7 ⟨rfl, m, hw7⟩
          have HB7 : Hid (Below w.heap.size w w7) := by rw [hw7]; exact below_drewN HB.out m
          have HK7 : Hid (KeysAt w7 w.heap.size (.slice a5 out.length c5) out) := by rw [hw7]; exact row_below HK.out (below_drewN (Below.refl _ _) m)
          have hB7 : w.heap.size ≤ w7.heap.size := HB7.out.size
          clear hw7 HB HK c0 hlk
          have hr6 : w7.ownsRow w.heap.size 9 1 (.slice a5 out.length c5) out.length (out.map encS) := HK7.out
          go_wp2_with (at_builtin; refine append_row _ rfl (.tmp 31) (.tmp 33) _ 9 _ 1 16 Try.underlying39 info_str rfl (by decide) rfl w.heap.size _ out.length _ rfl [.string ⟨x.toArray⟩] rfl (by simp [Value.oneCell']) _ _ rfl rfl rfl hr6 (by omega) (by omega) hB7 ?_)
          intro v6 w6 hq6 hg6
          have HB6 : Hid (Below w.heap.size w w6) := HB7.out.trans (hg6.toBelow hB7 fun j hj => (World.ownsRow.lt hr6 j hj).1)
          obtain ⟨out6, ho6⟩ : ∃ o, o = out ++ [x] := ⟨_, rfl⟩
          have HO6 : Hid (out6 = out ++ [x]) := ho6
          have hl6 : out6.length = out.length + 1 := by rw [ho6]; simp
          have HK6 : Hid (KeysAt w6 w.heap.size v6 out6) := by rw [ho6]; exact keys_push hq6
          obtain ⟨a6, c6, rfl, -⟩ := row_forms hq6
          rw [← hl6] at HK6 ⊢
          have hB6 : w.heap.size ≤ w6.heap.size := HB6.out.size
          have hL6 : out6.length ≤ out.length + 1 := by omega
          clear hq6 hg6 hr6 ho6 hl6
          go_wp2
          go_roundw
          case rel => exact ⟨n + 1, a6, c6, out6, false, by omega, by go_num, rfl, rfl, by first | omega | (simp; omega), by rw [Hid, ← HS.out]; rw [HO6.out]; simp [hxk], HK6, HB6⟩
          case measure => simp [intOf]; omega
        · have hld : decide (x < k) = false := decide_eq_false hlk
          rw [hld] at HLC HS
          clear hld
          go_wp2_with fail
          refine HLC.out.mono ?_
          clear HLC
          rintro e w7 ⟨rfl, m, hw7⟩
          have HB7 : Hid (Below w.heap.size w w7) := by rw [hw7]; exact below_drewN HB.out m
          have HK7 : Hid (KeysAt w7 w.heap.size (.slice a5 out.length c5) out) := by rw [hw7]; exact row_below HK.out (below_drewN (Below.refl _ _) m)
          have hB7 : w.heap.size ≤ w7.heap.size := HB7.out.size
          clear hw7 HB HK c0 hlk
          have hr6 : w7.ownsRow w.heap.size 9 1 (.slice a5 out.length c5) out.length (out.map encS) := HK7.out
          go_wp2_with (at_builtin; refine append_row _ rfl (.tmp 24) (.tmp 26) _ 9 _ 1 16 Try.underlying39 info_str rfl (by decide) rfl w.heap.size _ out.length _ rfl [.string ⟨k.toArray⟩] rfl (by simp [Value.oneCell']) _ _ rfl rfl rfl hr6 (by omega) (by omega) hB7 ?_)
          intro v6 w6 hq6 hg6
          have HB6 : Hid (Below w.heap.size w w6) := HB7.out.trans (hg6.toBelow hB7 fun j hj => (World.ownsRow.lt hr6 j hj).1)
          obtain ⟨out6, ho6⟩ : ∃ o, o = out ++ [k] := ⟨_, rfl⟩
          have HO6 : Hid (out6 = out ++ [k]) := ho6
          have hl6 : out6.length = out.length + 1 := by rw [ho6]; simp
          have HK6 : Hid (KeysAt w6 w.heap.size v6 out6) := by rw [ho6]; exact keys_push hq6
          obtain ⟨a6, c6, rfl, -⟩ := row_forms hq6
          rw [← hl6] at HK6 ⊢
          have hB6 : w.heap.size ≤ w6.heap.size := HB6.out.size
          have hL6 : out6.length ≤ out.length + 1 := by omega
          clear hq6 hg6 hr6 ho6 hl6
          by_cases hxk : x = k
          · have q1 : ((⟨x.toArray⟩ : ByteArray).toList == (⟨k.toArray⟩ : ByteArray).toList) = true := by rw [hbe]; simpa using hxk
            have q2 : (x == k) = true := by simpa using hxk
            clear hbe
            go_wp2
            go_roundw
            case rel => exact ⟨n + 1, a6, c6, out6, true, by omega, by go_num, rfl, rfl, by first | omega | (simp; omega), by rw [Hid, ← HS.out]; rw [HO6.out]; simp [hxk], HK6, HB6⟩
            case measure => simp [intOf]; omega
          · have q1 : ((⟨x.toArray⟩ : ByteArray).toList == (⟨k.toArray⟩ : ByteArray).toList) = false := by rw [hbe]; simpa using hxk
            have q2 : (x == k) = false := by simpa using hxk
            clear hbe
            have hr8 : w6.ownsRow w.heap.size 9 1 (.slice a6 out6.length c6) out6.length (out6.map encS) := HK6.out
            go_wp2_with (at_builtin; refine append_row _ rfl (.tmp 31) (.tmp 33) _ 9 _ 1 16 Try.underlying39 info_str rfl (by decide) rfl w.heap.size _ out6.length _ rfl [.string ⟨x.toArray⟩] rfl (by simp [Value.oneCell']) _ _ rfl rfl rfl hr8 (by omega) (by omega) hB6 ?_)
            intro v8 w8 hq8 hg8
            have HB8 : Hid (Below w.heap.size w w8) := HB6.out.trans (hg8.toBelow hB6 fun j hj => (World.ownsRow.lt hr8 j hj).1)
            obtain ⟨out8, ho8⟩ : ∃ o, o = out6 ++ [x] := ⟨_, rfl⟩
            have HO8 : Hid (out8 = out6 ++ [x]) := ho8
            have hl8 : out8.length = out6.length + 1 := by rw [ho8]; simp
            have HK8 : Hid (KeysAt w8 w.heap.size v8 out8) := by rw [ho8]; exact keys_push hq8
            obtain ⟨a8, c8, rfl, -⟩ := row_forms hq8
            rw [← hl8] at HK8 ⊢
            have hB8 : w.heap.size ≤ w8.heap.size := HB8.out.size
            have hL8 : out8.length ≤ out6.length + 1 := by omega
            clear hq8 hg8 hr8 ho8 hl8
            go_wp2
            go_roundw
            case rel => exact ⟨n + 1, a8, c8, out8, true, by omega, by go_num, rfl, rfl, by first | omega | (simp; omega), by rw [Hid, ← HS.out]; rw [HO8.out, HO6.out]; simp [hxk], HK8, HB8⟩
            case measure => simp [intOf]; omega
    · obtain rfl : n = ks.length := by omega
      rw [List.drop_length] at HP
      cases pl with
      | true =>
        have HE : Hid (out = putR k false ks) := by have := HP.out; simpa [putR, Hid] using this
        go_wp2
        go_ret
        rw [← HE.out]
        exact ⟨⟨a5, c5, rfl, HK.out⟩, HB.out⟩
      | false =>
        have HE : Hid (out ++ [k] = putR k false ks) := by have := HP.out; simpa [putR, Hid] using this
        have hB0 : w.heap.size ≤ wr.heap.size := HB.out.size
        have hr6 : wr.ownsRow w.heap.size 9 1 (.slice a5 out.length c5) out.length (out.map encS) := HK.out
        go_wp2_with (at_builtin; refine append_row _ rfl (.tmp 38) (.tmp 40) _ 9 _ 1 16 Try.underlying39 info_str rfl (by decide) rfl w.heap.size _ out.length _ rfl [.string ⟨k.toArray⟩] rfl (by simp [Value.oneCell']) _ _ rfl rfl rfl hr6 (by omega) (by omega) hB0 ?_)
        intro v6 w6 hq6 hg6
        have HB6 : Hid (Below w.heap.size w w6) := HB.out.trans (hg6.toBelow hB0 fun j hj => (World.ownsRow.lt hr6 j hj).1)
        obtain ⟨out6, ho6⟩ : ∃ o, o = out ++ [k] := ⟨_, rfl⟩
        have HO6 : Hid (out6 = out ++ [k]) := ho6
        have hl6 : out6.length = out.length + 1 := by rw [ho6]; simp
        have HK6 : Hid (KeysAt w6 w.heap.size v6 out6) := by rw [ho6]; exact keys_push hq6
        obtain ⟨a6, c6, rfl, -⟩ := row_forms hq6
        rw [← hl6] at HK6 ⊢
        have hB6 : w.heap.size ≤ w6.heap.size := HB6.out.size
        have hL6 : out6.length ≤ out.length + 1 := by omega
        clear hq6 hg6 hr6 ho6 hl6
        go_wp2
        go_ret
        rw [← HE.out, ← HO6.out]
        exact ⟨⟨a6, c6, rfl, HK6.out⟩, HB6.out⟩
end Go.Proofs.Ytjbnbpclelbohaa
