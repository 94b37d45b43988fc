/- Layer 9 (records): fixTags. -/
import Derived.Test.YtmkohdepgfahnaaGreatDoorRcFix0
import Derived.Test.YtmkohdepgfahnaaGreatDoorRwSort
namespace Go.Proofs.YtmkohdepgfahnaaGreatDoor
open Go.RowKit
set_option linter.unusedVariables false

abbrev lowL (x : ByteArray) : List UInt8 := (lowS x).data.toList
theorem encS_low (x : ByteArray) : encS (lowL x) = .string (lowS x) := rfl
def tagsOk (l : List ByteArray) : Prop := l.length ≤ 16 ∧ ∀ x ∈ l, labB x = true
instance (l : List ByteArray) : Decidable (tagsOk l) := by unfold tagsOk; infer_instance
def tagsE (l : List ByteArray) : Int := if tagsOk l then 0 else 93
/-- The tags in small letters, rising, each once. -/
def tagsL (l : List ByteArray) : List (List UInt8) := if tagsOk l then Lib.compact ((l.map lowL).mergeSort fun x y => decide (x ≤ y)) else []
theorem tags_yes {l : List ByteArray} (h : tagsOk l) : tagsE l = 0 ∧ tagsL l = Lib.compact ((l.map lowL).mergeSort fun x y => decide (x ≤ y)) := ⟨if_pos h, if_pos h⟩
theorem tags_no {l : List ByteArray} (h : ¬ tagsOk l) : tagsE l = 93 ∧ tagsL l = [] := ⟨if_neg h, if_neg h⟩
/-- What fixTags leaves: the tags in memory of their own. -/
def TagsA (w : World) (l : List ByteArray) (e : Ending) (w' : World) : Prop := ∃ v, e = .returned (.tuple #[v, .int .i64 (tagsE l)]) ∧ w'.ownsRow w.heap.size 9 1 v (tagsL l).length ((tagsL l).map encS) ∧ Below w.heap.size w w'
theorem tags_bad {w w' : World} {l : List ByteArray} (h : ¬ tagsOk l) (hb : Below w.heap.size w w') : TagsA w l (.returned (.tuple #[.slice none 0 0, .int .i64 93])) w' := by
  refine ⟨_, by rw [(tags_no h).1], ?_, hb⟩
  rw [(tags_no h).2]
  exact World.ownsRow_nil _ _ _ _
/-- The first k tags, lowered, are the call's own. -/
structure TgI (w : World) (l : List ByteArray) (k : Nat) (v : Value) (wr : World) : Prop where
  own : wr.ownsRow w.heap.size 9 1 v k (((l.take k).map lowL).map encS)
  below : Below w.heap.size w wr
  good : ∀ j (h : j < l.length), j < k → labB l[j] = true
theorem take_enc (l : List ByteArray) (k : Nat) (hk : k < l.length) : ((l.take (k + 1)).map lowL).map encS = ((l.take k).map lowL).map encS ++ [.string (lowS l[k])] := by
  rw [List.take_succ_eq_append_getElem hk, List.map_append, List.map_append]
  rfl

set_option maxRecDepth 100000 in
set_option maxHeartbeats 2000000 in
theorem fixTags_calls (ao : Option Addr) (cap : Nat) (l : List ByteArray) (w : World) (hl : l.length ≤ 8796093022208) (hs : ∀ x ∈ l, x.size ≤ 140737488351296) (hc : CellsAt w ao (l.map Value.string)) :
    Calls Tryz.prog 79 #[.slice ao l.length cap] w fun e w' => TagsA w l e w' := by
  have HC : Hid (CellsAt w ao (l.map Value.string)) := hc
  have HS : Hid (∀ x ∈ l, x.size ≤ 140737488351296) := hs
  clear hc hs
  by_cases h16 : l.length ≤ 16
  case neg =>
    have q : (16 : Int) < (l.length : Int) := by omega
    have HN : Hid (¬ tagsOk l) := fun h => h16 h.1
    go_enter Tryz.func79, Tryz.ntmps79
    go_wp2
    go_ret2
    exact tags_bad HN.out (Below.refl _ _)
  have q : ¬ (16 : Int) < (l.length : Int) := by omega
  obtain ⟨n, Hn⟩ : ∃ n, Hid (n = l.length) := ⟨_, rfl⟩
  rw [← Hn.out] at h16 q hl ⊢
  go_enter Tryz.func79, Tryz.ntmps79
  go_wp2
  go_loopw [4, 14] (fun v i wr => ∃ (k : Nat) (a : Option Addr) (c : Nat), k ≤ n ∧ i = .int .i64 k ∧ v = .slice a k c ∧ Hid (TgI w l k (.slice a k c) wr)) (fun _ i _ => n - (intOf i).toNat)
  case atStart => exact ⟨0, none, 0, Nat.zero_le _, rfl, rfl, ⟨by simpa using World.ownsRow_nil _ _ _ _, Below.refl _ _, fun j _ h => by omega⟩⟩
  case round =>
    obtain ⟨k, a, c, hk, rfl, rfl, HI⟩ := hrel
    have hsz := HI.out.below.size
    by_cases hlt : k < n
    · have hlt' : k < l.length := by rw [← Hn.out]; exact hlt
      obtain ⟨ab, af, rfl, c0⟩ := (HC.out.below HI.out.below).str k hlt'
      obtain ⟨x, Hx⟩ : ∃ x, Hid (x = l[k]) := ⟨l[k], rfl⟩
      have hxs : x.size ≤ 140737488351296 := by rw [Hx.out]; exact HS.out _ (List.getElem_mem hlt')
      rw [← Hx.out] at c0
      have hi0 : (0 : Int) ≤ (k : Int) := by omega
      have hi1 : (k : Int) < (n : Int) := by omega
      cases hb : labB x with
      | false =>
        have HN : Hid (¬ tagsOk l) := fun h => by have := h.2 l[k] (List.getElem_mem hlt'); rw [← Hx.out, hb] at this; cases this
        have HL : Hid (Calls Tryz.prog 70 #[.string x] wr fun e w' => e = .returned (.tuple #[.string ⟨#[]⟩, .int .i64 90]) ∧ Below wr.heap.size wr w') := by
          have := label_calls x wr hxs
          rw [(lab_no hb).1, (lab_no hb).2] at this
          exact this
        clear hb
        go_wp2_with fail
        refine HL.out.mono ?_
        rintro e w1 ⟨rfl, hb1⟩
        have HB1 : Hid (Below w.heap.size w w1) := HI.out.below.trans (hb1.mono hsz)
        clear hb1
        go_wp2
        go_ret2
        exact tags_bad HN.out HB1.out
      | true =>
        have HL : Hid (Calls Tryz.prog 70 #[.string x] wr fun e w' => e = .returned (.tuple #[.string (lowS x), .int .i64 0]) ∧ Below wr.heap.size wr w') := by
          have := label_calls x wr hxs
          rw [(lab_yes hb).1, (lab_yes hb).2] at this
          exact this
        have HG : Hid (∀ j (h : j < l.length), j < k + 1 → labB l[j] = true) := fun j hj hjk => by
          rcases Nat.lt_or_ge j k with h' | h'
          · exact HI.out.good j hj h'
          · obtain rfl : j = k := by omega
            rw [← Hx.out]; exact hb
        clear hb
        go_wp2_with fail
        refine HL.out.mono ?_
        rintro e w1 ⟨rfl, hb1⟩
        have HB1 : Hid (Below w.heap.size w w1) := HI.out.below.trans (hb1.mono hsz)
        obtain ⟨L, HLs⟩ : ∃ L, Hid (L = ((l.take k).map lowL).map encS) := ⟨_, rfl⟩
        have ho1 : w1.ownsRow w.heap.size 9 1 (.slice a k c) k L := by rw [HLs.out]; exact row_below HI.out.own hb1
        have hsz1 := HB1.out.size
        clear hb1 HL
        go_wp2_with (at_builtin; refine append_row _ rfl (.tmp 25) (.tmp 27) _ 9 _ 1 16 Tryz.underlying49 info_str rfl (by decide) rfl w.heap.size _ k _ rfl [.string (lowS x)] rfl (by simp [Value.oneCell']) _ _ rfl rfl rfl ho1 (by omega) (by omega) hsz1 ?_)
        intro v2 w2 ho2 hg2
        have HB2 : Hid (Below w.heap.size w w2) := HB1.out.trans (hg2.toBelow hsz1 fun j hj => (World.ownsRow.lt ho1 j hj).1)
        have HT : Hid (((l.take (k + 1)).map lowL).map encS = L ++ [.string (lowS x)]) := by rw [Hid, Hx.out, HLs.out]; exact take_enc l k hlt'
        rw [← HT.out] at ho2
        obtain ⟨a2, c2, rfl⟩ : ∃ a2 c2, v2 = .slice a2 (k + 1) c2 := by
          rcases ho2.2 with ⟨_, h0⟩ | ⟨g, cap, cur, rfl, _⟩
          · omega
          · exact ⟨_, _, rfl⟩
        have HI2 : Hid (TgI w l (k + 1) (.slice a2 (k + 1) c2) w2) := ⟨ho2, HB2.out, HG.out⟩
        clear ho1 ho2 hg2 HB1 HB2 HI
        go_wp2
        go_roundw
        case rel => exact ⟨k + 1, a2, c2, by omega, by go_num, rfl, HI2⟩
        case measure => simp [intOf]; omega
    · obtain rfl : k = n := by omega
      have HO : Hid (tagsOk l) := ⟨by rw [← Hn.out]; exact h16, fun x hx => by
        obtain ⟨j, hj, rfl⟩ := List.getElem_of_mem hx
        exact HI.out.good j hj (by rw [Hn.out]; exact hj)⟩
      obtain ⟨ks, Hks⟩ : ∃ ks, Hid (ks = l.map lowL) := ⟨_, rfl⟩
      have HLk : Hid (ks.length = k) := by rw [Hid, Hks.out, List.length_map, Hn.out]
      have ho : wr.ownsRow w.heap.size 9 1 (.slice a k c) k (ks.map encS) := by
        have := HI.out.own
        rw [List.take_of_length_le (by rw [Hn.out]; exact Nat.le_refl _), ← Hks.out] at this
        exact this
      have HR : Hid (∀ v w', w'.ownsRow w.heap.size 9 1 v (Lib.compact (ks.mergeSort fun x y => decide (x ≤ y))).length ((Lib.compact (ks.mergeSort fun x y => decide (x ≤ y))).map encS) → Below w.heap.size w w' → TagsA w l (.returned (.tuple #[v, .int .i64 0])) w') := fun v w' h1 h2 => ⟨v, by rw [(tags_yes HO.out).1], by rw [(tags_yes HO.out).2, ← Hks.out]; exact h1, h2⟩
      have HB : Hid (Below w.heap.size w wr) := HI.out.below
      clear HI Hks
      rcases Nat.eq_zero_or_pos k with h0 | h0
      · have hk0 : ks = [] := List.length_eq_zero_iff.1 (by rw [HLk.out]; exact h0)
        subst hk0
        subst h0
        have HF : Hid (TagsA w l (.returned (.tuple #[.slice a 0 c, .int .i64 0])) wr) := HR.out _ _ (by simpa [Lib.compact, Lib.compactUpTo] using ho) HB.out
        have HC1 : Hid (Calls Tryz.prog 90 #[.slice a 0 c] wr fun e w' => e = .returned (.tuple #[]) ∧ w' = wr) := Tryz.slices_Sort_string_none a c wr
        have HC2 : Hid (Calls Tryz.prog 91 #[.slice a 0 c] wr fun e w' => e = .returned (.slice a 0 c) ∧ w' = wr) := Tryz.slices_Compact_string_empty a c wr
        clear ho HR HC HO
        go_wp2_with fail
        refine HC1.out.mono ?_
        rintro e w1 ⟨rfl, hw⟩
        subst w1
        go_wp2_with fail
        refine HC2.out.mono ?_
        rintro e w1 ⟨rfl, hw⟩
        subst w1
        go_wp2
        go_ret2
        exact HF.out
      · obtain ⟨g, rfl⟩ : ∃ g, a = some ⟨g, 0, none⟩ := by
          rcases ho.2 with ⟨_, h1⟩ | ⟨g, cap', cur, he, _⟩
          · omega
          · injection he with h1; exact ⟨g, h1⟩
        have hz := HLk.out
        subst hz
        have HSo : Hid (wr.ownsRow w.heap.size 9 1 (.slice (some ⟨g, 0, none⟩) ks.length c) ks.length (ks.map encS)) := ho
        have hgB : w.heap.size ≤ g := by
          rcases ho.2 with ⟨he, _⟩ | ⟨g', cap', cur, he, hb, _⟩
          · cases he
          · injection he with h1; injection h1 with h1; injection h1 with h1; rw [h1]; exact hb
        have HgB : Hid (w.heap.size ≤ g) := hgB
        clear ho hgB HC HO
        go_wp2_with fail
        refine (sort_calls g c w.heap.size ks wr (by omega) HSo.out).mono ?_
        rintro e w1 ⟨rfl, ho1, hg1⟩
        have HB1 : Hid (Below w.heap.size w w1) := HB.out.trans (hg1.toBelow HB.out.size fun j hj => (World.ownsRow.lt HSo.out j hj).1)
        obtain ⟨zs, Hzs⟩ : ∃ zs, Hid (zs = ks.mergeSort fun x y => decide (x ≤ y)) := ⟨_, rfl⟩
        have hzl : zs.length = ks.length := by rw [Hzs.out, List.length_mergeSort]
        have HO1 : Hid (w1.ownsRow w.heap.size 9 1 (.slice (some ⟨g, 0, none⟩) zs.length c) zs.length (zs.map encS)) := by rw [Hid, hzl, Hzs.out]; exact ho1
        rw [← Hzs.out] at HR
        have HC2 := compact_calls g c w.heap.size zs w1 (by omega) HO1.out
        rw [hzl] at HC2
        have HC2 : Hid (Calls Tryz.prog 91 #[.slice (some ⟨g, 0, none⟩) ks.length c] w1 fun e w' => e = .returned (.slice (some ⟨g, 0, none⟩) (Lib.compact zs).length c) ∧ w'.ownsRow w.heap.size 9 1 (.slice (some ⟨g, 0, none⟩) (Lib.compact zs).length c) (Lib.compact zs).length ((Lib.compact zs).map encS) ∧ Below w.heap.size w w') := HC2.mono fun e w' ⟨h1, h2, h3⟩ => ⟨h1, h2, HB1.out.trans (h3.toBelow HB1.out.size fun j hj => (World.ownsRow.lt ho1 j hj).1)⟩
        clear ho1 hg1 hzl
        go_wp2_with fail
        refine HC2.out.mono ?_
        rintro e w2 ⟨rfl, ho2, hb2⟩
        have HF : Hid _ := HR.out _ _ ho2 hb2
        clear ho2 hb2 HR
        go_wp2
        go_ret2
        exact HF.out
end Go.Proofs.YtmkohdepgfahnaaGreatDoor
