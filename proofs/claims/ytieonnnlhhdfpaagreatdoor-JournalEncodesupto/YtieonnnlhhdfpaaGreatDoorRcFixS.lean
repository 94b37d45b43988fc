import Derived.Test.YtieonnnlhhdfpaaGreatDoorRcSplit
import Derived.Test.YtieonnnlhhdfpaaGreatDoorRwSort
import Derived.Test.YtieonnnlhhdfpaaGreatDoorRcLabel
/- Layer 9 (records): fixTags. -/
namespace Go.Proofs.YtieonnnlhhdfpaaGreatDoor
open Go.RowKit
set_option linter.unusedVariables false

abbrev lowL (x : ByteArray) : List UInt8 := (lowS x).data.toList
theorem encS_low (x : ByteArray) : encS (lowL x) = .string (lowS x) := rfl
def tagsOk (l : List ByteArray) : Prop := l.length ≤ 16 ∧ ∀ x ∈ l, labB x = true
instance (l : List ByteArray) : Decidable (tagsOk l) := by unfold tagsOk; infer_instance
def tagsE (l : List ByteArray) : Int := if tagsOk l then 0 else 93
/-- The tags in small letters, rising, each once. -/
def tagsL (l : List ByteArray) : List (List UInt8) := if tagsOk l then Lib.compact ((l.map lowL).mergeSort fun x y => decide (x ≤ y)) else []
theorem tags_yes {l : List ByteArray} (h : tagsOk l) : tagsE l = 0 ∧ tagsL l = Lib.compact ((l.map lowL).mergeSort fun x y => decide (x ≤ y)) := ⟨if_pos h, if_pos h⟩
theorem tags_no {l : List ByteArray} (h : ¬ tagsOk l) : tagsE l = 93 ∧ tagsL l = [] := ⟨if_neg h, if_neg h⟩
/-- What fixTags leaves: the tags in memory of their own. -/
def TagsA (w : World) (l : List ByteArray) (e : Ending) (w' : World) : Prop := ∃ v, e = .returned (.tuple #[v, .int .i64 (tagsE l)]) ∧ w'.ownsRow w.heap.size 9 1 v (tagsL l).length ((tagsL l).map encS) ∧ Below w.heap.size w w'
theorem tags_bad {w w' : World} {l : List ByteArray} (h : ¬ tagsOk l) (hb : Below w.heap.size w w') : TagsA w l (.returned (.tuple #[.slice none 0 0, .int .i64 93])) w' := by
  refine ⟨_, by rw [(tags_no h).1], ?_, hb⟩
  rw [(tags_no h).2]
  exact World.ownsRow_nil _ _ _ _
/-- The first k tags, lowered, are the call's own. -/
structure TgI (w : World) (l : List ByteArray) (k : Nat) (v : Value) (wr : World) : Prop where
  own : wr.ownsRow w.heap.size 9 1 v k (((l.take k).map lowL).map encS)
  below : Below w.heap.size w wr
  good : ∀ j (h : j < l.length), j < k → labB l[j] = true
theorem take_enc (l : List ByteArray) (k : Nat) (hk : k < l.length) : ((l.take (k + 1)).map lowL).map encS = ((l.take k).map lowL).map encS ++ [.string (lowS l[k])] := by
  rw [List.take_succ_eq_append_getElem hk, List.map_append, List.map_append]
  rfl

set_option maxRecDepth 100000 in
set_option maxHeartbeats 2000000 in
theorem fixTags_calls (ao : Option Addr) (cap : Nat) (l : List ByteArray) (w : World) (hl : l.length ≤ 8796093022208) (hs : ∀ x ∈ l, x.size ≤ 140737488351296) (hc : CellsAt w ao (l.map Value.string)) :
    Calls Tryz.prog 86 #[.slice ao l.length cap] w fun e w' => TagsA w l e w' := by
  have HC : Hid (CellsAt w ao (l.map Value.string)) := hc
  have HS : Hid (∀ x ∈ l, x.size ≤ 140737488351296) := hs
  clear hc hs
  by_cases h16 : l.length ≤ 16
  case neg =>
    have q : (16 : Int) < (l.length : Int) := by omega
    have HN : Hid (¬ tagsOk l) := fun h => h16 h.1
    go_enter Tryz.func86, Tryz.ntmps86
    go_wp2
    go_ret2
    exact tags_bad HN.out (Below.refl _ _)
  have q : ¬ (16 : Int) < (l.length : Int) := by omega
  obtain ⟨n, Hn⟩ : ∃ n, Hid (n = l.length) := ⟨_, rfl⟩
  rw [← Hn.out] at h16 q hl ⊢
  go_enter Tryz.func86, Tryz.ntmps86
  go_wp2
  go_loopw [4, 14] (fun v i wr => ∃ (k : Nat) (a : Option Addr) (c : Nat), k ≤ n ∧ i = .int .i64 k ∧ v = .slice a k c ∧ Hid (TgI w l k (.slice a k c) wr)) (fun _ i _ => n - (intOf i).toNat)
  case atStart => exact ⟨0, none, 0, Nat.zero_le _, rfl, rfl, ⟨by simpa using World.ownsRow_nil _ _ _ _, Below.refl _ _, fun j _ h => by omega⟩⟩
  case round =>
    obtain ⟨k, a, c, hk, rfl, rfl, HI⟩ := hrel
    have hsz := HI.out.below.size
    by_cases hlt : k < n
    · have hlt' : k < l.length := by rw [← Hn.out]; exact hlt
      obtain ⟨ab, af, rfl, c0⟩ := (HC.out.below HI.out.below).str k hlt'
      obtain ⟨x, Hx⟩ : ∃ x, Hid (x = l[k]) := ⟨l[k], rfl⟩
      have hxs : x.size ≤ 140737488351296 := by rw [Hx.out]; exact HS.out _ (List.getElem_mem hlt')
      rw [← Hx.out] at c0
      have hi0 : (0 : Int) ≤ (k : Int) := by omega
      have hi1 : (k : Int) < (n : Int) := by omega
      cases hb : labB x with
      | false =>
        have HN : Hid (¬ tagsOk l) := fun h => by have := h.2 l[k] (List.getElem_mem hlt'); rw [← Hx.out, hb] at this; cases this
        have HL : Hid (Calls Tryz.prog 77 #[.string x] wr fun e w' => e = .returned (.tuple #[.string ⟨#[]⟩, .int .i64 90]) ∧ Below wr.heap.size wr w') := by
          have := label_calls x wr hxs
          rw [(lab_no hb).1, (lab_no hb).2] at this
          exact this
        clear hb
        go_wp2_with fail
        refine HL.out.mono ?_
        rintro e w1 ⟨rfl, hb1⟩
        have HB1 : Hid (Below w.heap.size w w1) := HI.out.below.trans (hb1.mono hsz)
        clear hb1
        go_wp2
        go_ret2
        exact tags_bad HN.out HB1.out
      | true =>
        have HL : Hid (Calls Tryz.prog 77 #[.string x] wr fun e w' => e = .returned (.tuple #[.string (lowS x), .int .i64 0]) ∧ Below wr.heap.size wr w') := by
          have := label_calls x wr hxs
          rw [(lab_yes hb).1, (lab_yes hb).2] at this
          exact this
        have HG : Hid (∀ j (h : j < l.length), j < k + 1 → labB l[j] = true) := fun j hj hjk => by
          rcases Nat.lt_or_ge j k with h' | h'
          · exact HI.out.good j hj h'
          · obtain rfl : j = k := by omega
            rw [← Hx.out]; exact hb
        clear hb
        go_wp2_with fail
        refine HL.out.mono ?_
        rintro e w1 ⟨rfl, hb1⟩
        have HB1 : Hid (Below w.heap.size w w1) := HI.out.below.trans (hb1.mono hsz)
        obtain ⟨L, HLs⟩ : ∃ L, Hid (L = ((l.take k).map lowL).map encS) := ⟨_, rfl⟩
        have ho1 : w1.ownsRow w.heap.size 9 1 (.slice a k c) k L := by rw [HLs.out]; exact row_below HI.out.own hb1
        have hsz1 := HB1.out.size
        clear hb1 HL
        go_wp2_with (at_builtin; refine append_row _ rfl (.tmp 25) (.tmp 27) _ 9 _ 1 16 Tryz.underlying50 info_str rfl (by decide) rfl w.heap.size _ k _ rfl [.string (lowS x)] rfl (by simp [Value.oneCell']) _ _ rfl rfl rfl ho1 (by omega) (by omega) hsz1 ?_)
        intro v2 w2 ho2 hg2
        have HB2 : Hid (Below w.heap.size w w2) := HB1.out.trans (hg2.toBelow hsz1 fun j hj => (World.ownsRow.lt ho1 j hj).1)
        have HT : Hid (((l.take (k + 1)).map lowL).map encS = L ++ [.string (lowS x)]) := by rw [Hid, Hx.out, HLs.out]; exact take_enc l k hlt'
        rw [← HT.out] at ho2
        obtain ⟨a2, c2, rfl⟩ : ∃ a2 c2, v2 = .slice a2 (k + 1) c2 := by
          rcases ho2.2 with ⟨_, h0⟩ | ⟨g, cap, cur, rfl, _⟩
          · omega
          · exact ⟨_, _, rfl⟩
        have HI2 : Hid (TgI w l (k + 1) (.slice a2 (k + 1) c2) w2) := ⟨ho2, HB2.out, HG.out⟩
        clear ho1 ho2 hg2 HB1 HB2 HI
        go_wp2
        go_roundw
        case rel => exact ⟨k + 1, a2, c2, by omega, by go_num, rfl, HI2⟩
        case measure => simp [intOf]; omega
    · obtain rfl : k = n := by omega
      have HO : Hid (tagsOk l) := ⟨by rw [← Hn.out]; exact h16, fun x hx => by
        obtain ⟨j, hj, rfl⟩ := List.getElem_of_mem hx
        exact HI.out.good j hj (by rw [Hn.out]; exact hj)⟩
      obtain ⟨ks, Hks⟩ : ∃ ks, Hid (ks = l.map lowL) := ⟨_, rfl⟩
      have HLk : Hid (ks.length = k) := by rw [Hid, Hks.out, List.length_map, Hn.out]
      have ho : wr.ownsRow w.heap.size 9 1 (.slice a k c) k (ks.map encS) := by
        have := HI.out.own
        rw [List.take_of_length_le (by rw [Hn.out]; exact Nat.le_refl _), ← Hks.out] at this
        exact this
      have HR : Hid (∀ v w', w'.ownsRow w.heap.size 9 1 v (Lib.compact (ks.mergeSort fun x y => decide (x ≤ y))).length ((Lib.compact (ks.mergeSort fun x y => decide (x ≤ y))).map encS) → Below w.heap.size w w' → TagsA w l (.returned (.tuple #[v, .int .i64 0])) w') := fun v w' h1 h2 => ⟨v, by rw [(tags_yes HO.out).1], by rw [(tags_yes HO.out).2, ← Hks.out]; exact h1, h2⟩
      have HB : Hid (Below w.heap.size w wr) := HI.out.below
      clear HI Hks
      rcases Nat.eq_zero_or_pos k with h0 | h0
      · have hk0 : ks = [] := List.length_eq_zero_iff.1 (by rw [HLk.out]; exact h0)
        subst hk0
        subst h0
        have HF : Hid (TagsA w l (.returned (.tuple #[.slice a 0 c, .int .i64 0])) wr) := HR.out _ _ (by simpa [Lib.compact, Lib.compactUpTo] using ho) HB.out
        have HC1 : Hid (Calls Tryz.prog 97 #[.slice a 0 c] wr fun e w' => e = .returned (.tuple #[]) ∧ w' = wr) := Tryz.slices_Sort_string_none a c wr
        have HC2 : Hid (Calls Tryz.prog 98 #[.slice a 0 c] wr fun e w' => e = .returned (.slice a 0 c) ∧ w' = wr) := Tryz.slices_Compact_string_empty a c wr
        clear ho HR HC HO
        go_wp2_with fail
        refine HC1.out.mono ?_
        rintro e w1 ⟨rfl, hw⟩
        subst w1
        go_wp2_with fail
        refine HC2.out.mono ?_
        rintro e w1 ⟨rfl, hw⟩
        subst w1
        go_wp2
        go_ret2
        exact HF.out
      · obtain ⟨g, rfl⟩ : ∃ g, a = some ⟨g, 0, none⟩ := by
          rcases ho.2 with ⟨_, h1⟩ | ⟨g, cap', cur, he, _⟩
          · omega
          · injection he with h1; exact ⟨g, h1⟩
        have hz := HLk.out
        subst hz
        have HSo : Hid (wr.ownsRow w.heap.size 9 1 (.slice (some ⟨g, 0, none⟩) ks.length c) ks.length (ks.map encS)) := ho
        have hgB : w.heap.size ≤ g := by
          rcases ho.2 with ⟨he, _⟩ | ⟨g', cap', cur, he, hb, _⟩
          · cases he
          · injection he with h1; injection h1 with h1; injection h1 with h1; rw [h1]; exact hb
        have HgB : Hid (w.heap.size ≤ g) := hgB
        clear ho hgB HC HO
        go_wp2_with fail
        refine (sort_calls g c w.heap.size ks wr (by omega) HSo.out).mono ?_
        rintro e w1 ⟨rfl, ho1, hg1⟩
        have HB1 : Hid (Below w.heap.size w w1) := HB.out.trans (hg1.toBelow HB.out.size fun j hj => (World.ownsRow.lt HSo.out j hj).1)
        obtain ⟨zs, Hzs⟩ : ∃ zs, Hid (zs = ks.mergeSort fun x y => decide (x ≤ y)) := ⟨_, rfl⟩
        have hzl : zs.length = ks.length := by rw [Hzs.out, List.length_mergeSort]
        have HO1 : Hid (w1.ownsRow w.heap.size 9 1 (.slice (some ⟨g, 0, none⟩) zs.length c) zs.length (zs.map encS)) := by rw [Hid, hzl, Hzs.out]; exact ho1
        rw [← Hzs.out] at HR
        have HC2 := compact_calls g c w.heap.size zs w1 (by omega) HO1.out
        rw [hzl] at HC2
        have HC2 : Hid (Calls Tryz.prog 98 #[.slice (some ⟨g, 0, none⟩) ks.length c] w1 fun e w' => e = .returned (.slice (some ⟨g, 0, none⟩) (Lib.compact zs).length c) ∧ w'.ownsRow w.heap.size 9 1 (.slice (some ⟨g, 0, none⟩) (Lib.compact zs).length c) (Lib.compact zs).length ((Lib.compact zs).map encS) ∧ Below w.heap.size w w') := HC2.mono fun e w' ⟨h1, h2, h3⟩ => ⟨h1, h2, HB1.out.trans (h3.toBelow HB1.out.size fun j hj => (World.ownsRow.lt ho1 j hj).1)⟩
        clear ho1 hg1 hzl
        go_wp2_with fail
        refine HC2.out.mono ?_
        rintro e w2 ⟨rfl, ho2, hb2⟩
        have HF : Hid _ := HR.out _ _ ho2 hb2
        clear ho2 hb2 HR
        go_wp2
        go_ret2
        exact HF.out
end Go.Proofs.YtieonnnlhhdfpaaGreatDoor

/- Layer 9 (records): FixService. -/
namespace Go.Proofs.YtieonnnlhhdfpaaGreatDoor
open Go.RowKit
set_option linter.unusedVariables false

/-- A service, plain. -/
structure Sp where
  node : ByteArray
  id : ByteArray
  name : ByteArray
  port : Int
  tags : List ByteArray
  made : Int
  changed : Int
def Sp.v (s : Sp) (t : Value) : Array Value := #[.string s.node, .string s.id, .string s.name, .int .i64 s.port, t, .int .u64 s.made, .int .u64 s.changed]
def svcZ : Sp := ⟨⟨#[]⟩, ⟨#[]⟩, ⟨#[]⟩, 0, [], 0, 0⟩
def tagsB (l : List ByteArray) : List ByteArray := (tagsL l).map fun b => ⟨b.toArray⟩
theorem tagsB_len (l : List ByteArray) : (tagsB l).length = (tagsL l).length := by simp [tagsB]
theorem tagsB_map (l : List ByteArray) : (tagsB l).map Value.string = (tagsL l).map encS := by simp [tagsB, Function.comp_def]
def svcE (s : Sp) : Int := firstE [idE s.node s.id, labE s.name, portE s.port, tagsE s.tags]
def svcF (s : Sp) : Sp := if svcE s = 0 then ⟨labT s.node, labT s.id, labT s.name, s.port, tagsB s.tags, 0, 0⟩ else svcZ
theorem svc_yes {s : Sp} (h : svcE s = 0) : svcF s = ⟨labT s.node, labT s.id, labT s.name, s.port, tagsB s.tags, 0, 0⟩ := if_pos h
theorem svc_no {s : Sp} (h : ¬ svcE s = 0) : svcF s = svcZ := if_neg h
theorem svc_parts {s : Sp} (h : svcE s = 0) : idE s.node s.id = 0 ∧ labE s.name = 0 ∧ portE s.port = 0 ∧ tagsE s.tags = 0 := by
  unfold svcE at h
  simp only [firstE, orE] at h
  split at h
  · next h1 =>
    split at h
    · next h2 =>
      split at h
      · next h3 =>
        split at h
        · next h4 => exact ⟨h1, h2, h3, h4⟩
        · next h4 => exact absurd h h4
      · next h3 => exact absurd h h3
    · next h2 => exact absurd h h2
  · next h1 => exact absurd h h1
structure Sp.small (s : Sp) : Prop where
  node : s.node.size ≤ 140737488351296
  id : s.id.size ≤ 140737488351296
  name : s.name.size ≤ 140737488351296
  len : s.tags.length ≤ 8796093022208
  tags : ∀ x ∈ s.tags, x.size ≤ 140737488351296
/-- A service is answered, its tags in memory of their own. -/
def SvcA (w : World) (r : Sp) (x : Int) (e : Ending) (w' : World) : Prop := ∃ v, e = .returned (.tuple #[.agg (r.v v), .int .i64 x]) ∧ w'.ownsRow w.heap.size 9 1 v r.tags.length (r.tags.map Value.string) ∧ Below w.heap.size w w'
theorem info_svc : (Tryz.prog.info? 52).map (·.size) = some 7 := by kernel_rfl
theorem load_svc {w : World} {g : Nat} {cs : Array Value} (h : Blk w g cs 52) (hs : cs.size = 7) : (loadVar 52 ⟨g, 0, none⟩).run Tryz.prog w = .ok (.agg cs) w :=
  run_loadVar_row (P := Tryz.prog) w g 52 52 cs (0, 0) _ h Tryz.underlying52 rfl (by rw [info_svc, hs])

theorem row_weak {w : World} {B B' : Nat} {e : TypeId} {size : Nat} {v : Value} {n : Nat} {l : List Value} (hB : B' ≤ B) (h : w.ownsRow B e size v n l) : w.ownsRow B' e size v n l := by
  refine ⟨h.1, ?_⟩
  rcases h.2 with h1 | ⟨g, cap, cur, h1, h2, h3⟩
  · exact .inl h1
  · exact .inr ⟨g, cap, cur, h1, Nat.le_trans hB h2, h3⟩
theorem row_putC {w : World} {B g : Nat} {e T : TypeId} {size : Nat} {v : Value} {n : Nat} {xs : List Value} {cs : Array Value} (hg : Blk w g cs T) (hT : T ≠ e) (h : w.ownsRow B e size v n xs) (l : List Value) : (putC w g 0 l).ownsRow B e size v n xs := by
  refine ⟨h.1, ?_⟩
  rcases h.2 with h1 | ⟨g', cap, cur, h1, h2, h3, h4⟩
  · exact .inl h1
  · refine .inr ⟨g', cap, cur, h1, h2, putC_other (fun e' => ?_) l w 0 h3, h4⟩
    subst e'
    have hg' : w.heap[g']? = some (.cells cs T) := hg
    rw [h3] at hg'
    injection hg' with hg'
    injection hg' with _ hg'
    exact hT hg'.symm
set_option maxRecDepth 100000 in
set_option maxHeartbeats 4000000 in
theorem fixService_calls (s : Sp) (ta : Option Addr) (tc : Nat) (w : World) (hs : s.small) (hc : CellsAt w ta (s.tags.map Value.string)) :
    Calls Tryz.prog 75 #[.agg (s.v (.slice ta s.tags.length tc))] w fun e w' => SvcA w (svcF s) (svcE s) e w' := by
  obtain ⟨ne, Hne⟩ : ∃ ne, Hid (ne = svcE s) := ⟨_, rfl⟩
  have HY : Hid (ne = 0 → svcF s = ⟨labT s.node, labT s.id, labT s.name, s.port, tagsB s.tags, 0, 0⟩ ∧ idT s.node s.id s.node = labT s.node ∧ idT s.node s.id s.id = labT s.id) := fun h => by
    have h : svcE s = 0 := by rw [← Hne.out]; exact h
    exact ⟨svc_yes h, id_yes (svc_parts h).1 _, id_yes (svc_parts h).1 _⟩
  have HN : Hid (¬ ne = 0 → svcF s = svcZ) := fun h => svc_no (by rw [← Hne.out]; exact h)
  have HE : Hid (ne = firstE [idE s.node s.id, labE s.name, portE s.port, tagsE s.tags]) := Hne.out
  rw [← Hne.out]
  clear Hne
  obtain ⟨hs1, hs2, hs3, hs4, hs5⟩ := hs
  have HC : Hid (CellsAt w ta (s.tags.map Value.string)) := hc
  have HS5 : Hid (∀ x ∈ s.tags, x.size ≤ 140737488351296) := hs5
  clear hc hs5
  obtain ⟨nd, id, nm, po, tg, mk, ch⟩ := s
  simp only [Sp.v] at *
  obtain ⟨tl, Htl⟩ : ∃ tl, Hid (tl = tg.length) := ⟨_, rfl⟩
  have HT : Hid (∀ w, CellsAt w ta (tg.map Value.string) → Calls Tryz.prog 86 #[.slice ta tl tc] w fun e w' => TagsA w tg e w') := fun w h => by rw [Htl.out]; exact fixTags_calls ta tc tg w hs4 HS5.out h
  rw [← Htl.out]
  obtain ⟨w2, Hw2⟩ : ∃ w2, Hid (w2 = (w.alloc (.cells #[.string nd, .string id, .string nm, .int .i64 po, .slice ta tl tc, .int .u64 mk, .int .u64 ch] 52)).alloc (.cells #[.string ⟨#[]⟩, .string ⟨#[]⟩, .string ⟨#[]⟩, .int .i64 0, .slice none 0 0, .int .u64 0, .int .u64 0] 52)) := ⟨_, rfl⟩
  have hz : (w.alloc (.cells #[.string nd, .string id, .string nm, .int .i64 po, .slice ta tl tc, .int .u64 mk, .int .u64 ch] 52)).heap.size = w.heap.size + 1 := size_new _ _
  have HX : Hid (Blk w2 w.heap.size #[.string nd, .string id, .string nm, .int .i64 po, .slice ta tl tc, .int .u64 mk, .int .u64 ch] 52) := by rw [Hw2.out]; exact (Blk.new _ _ _).alloc _
  have HR : Hid (Blk w2 (w.heap.size + 1) #[.string ⟨#[]⟩, .string ⟨#[]⟩, .string ⟨#[]⟩, .int .i64 0, .slice none 0 0, .int .u64 0, .int .u64 0] 52) := by rw [Hw2.out, ← hz]; exact Blk.new _ _ _
  have HB2 : Hid (Below w.heap.size w w2) := by rw [Hw2.out]; exact (below_new w _).alloc (by rw [hz]; omega) _
  clear hz
  go_enter Tryz.func75, Tryz.ntmps75
  go_wp2_with fail
  rw [← Hw2.out]
  clear Hw2
  refine (fixId_calls nd id w2 hs1 hs2).mono ?_
  rintro e w3 ⟨rfl, hb3⟩
  have HX2 := HX
  have HR2 := HR
  have HX3 : Hid (Blk w3 w.heap.size #[.string nd, .string id, .string nm, .int .i64 po, .slice ta tl tc, .int .u64 mk, .int .u64 ch] 52) := HX2.out.below hb3
  have HR3 : Hid (Blk w3 (w.heap.size + 1) #[.string ⟨#[]⟩, .string ⟨#[]⟩, .string ⟨#[]⟩, .int .i64 0, .slice none 0 0, .int .u64 0, .int .u64 0] 52) := HR2.out.below hb3
  have HB3 : Hid (Below w.heap.size w w3) := HB2.out.trans (hb3.mono HB2.out.size)
  have c2 := HX3.out.cell 2 rfl
  clear hb3 HX2 HR2 HX HR HB2
  go_wp2_with fail
  refine (label_calls nm w3 hs3).mono ?_
  rintro e w4 ⟨rfl, hb4⟩
  have HX4 : Hid (Blk w4 w.heap.size #[.string nd, .string id, .string nm, .int .i64 po, .slice ta tl tc, .int .u64 mk, .int .u64 ch] 52) := HX3.out.below hb4
  have HR4 : Hid (Blk w4 (w.heap.size + 1) #[.string ⟨#[]⟩, .string ⟨#[]⟩, .string ⟨#[]⟩, .int .i64 0, .slice none 0 0, .int .u64 0, .int .u64 0] 52) := HR3.out.below hb4
  have HB4 : Hid (Below w.heap.size w w4) := HB3.out.trans (hb4.mono HB3.out.size)
  have c4 := HX4.out.cell 4 rfl
  clear hb4 HX3 HR3 HB3 c2
  go_wp2_with fail
  refine (HT.out w4 (HC.out.below HB4.out)).mono ?_
  rintro e w5 ⟨v, rfl, ho5, hb5⟩
  obtain ⟨va, vn, vc, rfl⟩ : ∃ va vn vc, v = .slice va vn vc := by
    rcases ho5.2 with ⟨rfl, _⟩ | ⟨g, cap, cur, rfl, _⟩
    · exact ⟨_, _, _, rfl⟩
    · exact ⟨_, _, _, rfl⟩
  have HX5 : Hid (Blk w5 w.heap.size #[.string nd, .string id, .string nm, .int .i64 po, .slice ta tl tc, .int .u64 mk, .int .u64 ch] 52) := HX4.out.below hb5
  have HR5 : Hid (Blk w5 (w.heap.size + 1) #[.string ⟨#[]⟩, .string ⟨#[]⟩, .string ⟨#[]⟩, .int .i64 0, .slice none 0 0, .int .u64 0, .int .u64 0] 52) := HR4.out.below hb5
  have HB5 : Hid (Below w.heap.size w w5) := HB4.out.trans (hb5.mono HB4.out.size)
  have HO5 : Hid (w5.ownsRow w4.heap.size 9 1 (.slice va vn vc) (tagsL tg).length ((tagsL tg).map encS)) := ho5
  have HS4 : Hid (w.heap.size ≤ w4.heap.size) := HB4.out.size
  have c3 := HX5.out.cell 3 rfl
  clear hb5 ho5 HX4 HR4 HB4 c4 HT HC
  go_wp2_with fail
  refine (portError_calls po w5).mono ?_
  rintro e w6 ⟨rfl, hw⟩
  subst w6
  go_wp2_with fail
  refine (first4_calls (idE nd id) (labE nm) (portE po) (tagsE tg) _ w5 rfl).mono ?_
  rintro e w6 ⟨he, hw6⟩
  rw [← HE.out] at he
  subst he
  have hb6 : Below w5.heap.size w5 w6 := by rw [hw6]; exact below_new _ _
  have HX6 : Hid (Blk w6 w.heap.size #[.string nd, .string id, .string nm, .int .i64 po, .slice ta tl tc, .int .u64 mk, .int .u64 ch] 52) := HX5.out.below hb6
  have HR6 : Hid (Blk w6 (w.heap.size + 1) #[.string ⟨#[]⟩, .string ⟨#[]⟩, .string ⟨#[]⟩, .int .i64 0, .slice none 0 0, .int .u64 0, .int .u64 0] 52) := HR5.out.below hb6
  have HB6 : Hid (Below w.heap.size w w6) := HB5.out.trans (hb6.mono HB5.out.size)
  have HO6 : Hid (w6.ownsRow w.heap.size 9 1 (.slice va vn vc) (tagsL tg).length ((tagsL tg).map encS)) := row_weak HS4.out (row_below HO5.out hb6)
  have c6 := HX6.out.cell 3 rfl
  have r0 := HR6.out.cell 0 rfl
  have r1 := HR6.out.cell 1 rfl
  have r2 := HR6.out.cell 2 rfl
  have r3 := HR6.out.cell 3 rfl
  have r4 := HR6.out.cell 4 rfl
  have r5 := HR6.out.cell 5 rfl
  have r6 := HR6.out.cell 6 rfl
  have z := HR6.out.open
  have HTy : Hid (∀ (cs : Array Value) (l : List Value), (putC w6 (w.heap.size + 1) 0 l).ownsRow w.heap.size 9 1 (.slice va vn vc) (tagsL tg).length ((tagsL tg).map encS)) := fun _ l => row_putC HR6.out (by decide) HO6.out l
  clear hw6 hb6 HX5 HR5 HB5 HO5 c3
  by_cases h0 : ne = 0
  · obtain ⟨e1, e2, e3⟩ := HY.out h0
    have HQ : Hid (svcF ⟨nd, id, nm, po, tg, mk, ch⟩ = ⟨labT nd, labT id, labT nm, po, tagsB tg, 0, 0⟩) := e1
    have q : (ne != 0) = false := by simpa using h0
    have H0 : Hid (0 = ne) := h0.symm
    rw [e2, e3]
    clear e1 e2 e3 h0 HY HN
    go_wp2
    refine ret_box (g := w.heap.size + 1) (e := .int .i64 0) rfl rfl rfl rfl (load_svc (putC_all (l := [.string (labT nd), .string (labT id), .string (labT nm), .int .i64 po, .slice va vn vc, .int .u64 0, .int .u64 0]) HR6.out rfl) rfl) ⟨.slice va vn vc, ?_, ?_, putC_below [.string (labT nd), .string (labT id), .string (labT nm), .int .i64 po, .slice va vn vc, .int .u64 0, .int .u64 0] w6 0 HB6.out (by omega)⟩
    · rw [HQ.out, H0.out]; rfl
    · rw [HQ.out]
      show World.ownsRow _ _ _ _ _ (tagsB tg).length ((tagsB tg).map Value.string)
      rw [tagsB_len, tagsB_map]
      exact HTy.out #[] [.string (labT nd), .string (labT id), .string (labT nm), .int .i64 po, .slice va vn vc, .int .u64 0, .int .u64 0]
  · have HQ : Hid (svcF ⟨nd, id, nm, po, tg, mk, ch⟩ = svcZ) := HN.out h0
    have q : (ne != 0) = true := by simpa using h0
    clear HY HN
    go_wp2
    refine ret_box (g := w.heap.size + 1) (e := .int .i64 ne) rfl rfl rfl rfl (load_svc (putC_all (l := [.string ⟨#[]⟩, .string ⟨#[]⟩, .string ⟨#[]⟩, .int .i64 0, .slice none 0 0, .int .u64 0, .int .u64 0]) HR6.out rfl) rfl) ⟨.slice none 0 0, ?_, ?_, putC_below [.string ⟨#[]⟩, .string ⟨#[]⟩, .string ⟨#[]⟩, .int .i64 0, .slice none 0 0, .int .u64 0, .int .u64 0] w6 0 HB6.out (by omega)⟩
    · rw [HQ.out]; rfl
    · rw [HQ.out]
      exact World.ownsRow_nil _ _ _ _
end Go.Proofs.YtieonnnlhhdfpaaGreatDoor
