/- Layer 3 (radix): slices.Concat over lists of nodes. -/
import Derived.Test.YtcdfbbjakkmmoaaRClone
import Derived.Laws.AppendOwnNone
namespace Go.Proofs.Ytcdfbbjakkmmoaa
open Go.RowKit
set_option linter.unusedVariables false
variable {R : Rg} {O : Nat → Prop}

/-- A slice of nodes: where it lies, its capacity, the nodes. -/
structure SlV where
  ao : Option Addr
  cap : Nat
  ks : List Tr
def SlV.val (x : SlV) : Value := .slice x.ao x.ks.length x.cap
structure SlV.At (R : Rg) (w : World) (x : SlV) : Prop where
  kids : KidsAt R w x.ao x.ks
  room : x.ks.length ≤ x.cap
  nil : x.ao = none → x.cap = 0
theorem SlV.At.below {w w' : World} {x : SlV} (h : x.At R w) (hb : Below w.heap.size w w') : x.At R w' := ⟨h.kids.below hb, h.room, h.nil⟩

def allOf (S : List SlV) : List Tr := S.flatMap (·.ks)
theorem allOf_snoc (S : List SlV) (j : Nat) (h : j < S.length) : allOf (S.take (j + 1)) = allOf (S.take j) ++ S[j].ks := by
  unfold allOf
  rw [List.take_succ_eq_append_getElem h, List.flatMap_append]
  simp
theorem allOf_take_le (S : List SlV) (j : Nat) : (allOf (S.take j)).length ≤ (allOf S).length := by
  have : allOf S = allOf (S.take j) ++ allOf (S.drop j) := by unfold allOf; rw [← List.flatMap_append, List.take_append_drop]
  rw [this]; simp
theorem allOf_at_le (S : List SlV) (j : Nat) (h : j < S.length) : (allOf (S.take j)).length + S[j].ks.length ≤ (allOf S).length := by
  have := allOf_take_le S (j + 1)
  rw [allOf_snoc S j h] at this
  simpa using this

theorem kids_news {w : World} {b off : Nat} {ks : List Tr} (h : KidsAt R w (some ⟨b, off, none⟩) ks) : ∀ j u, (ks.map nodeP)[j]? = some u → w.cell? ((⟨b, off, none⟩ : Addr).add j) = some u := by
  intro j u hj
  rw [List.getElem?_map] at hj
  rcases Nat.lt_or_ge j ks.length with hl | hl
  · rw [List.getElem?_eq_getElem hl] at hj
    simp at hj
    subst hj
    obtain ⟨b', off', he, hc, _⟩ := h j hl
    simp only [Option.some.injEq, Addr.mk.injEq] at he
    obtain ⟨rfl, rfl, _⟩ := he
    have hadd : (⟨b, off, none⟩ : Addr).add j = ⟨b, off + j, none⟩ := by unfold Addr.add; split <;> simp_all
    rw [hadd]
    exact hc
  · rw [List.getElem?_eq_none hl] at hj
    cases hj

/-- An owned slice of nodes reads as a slice of nodes. -/
theorem own_slice {w : World} {B : Nat} {v : Value} {ks : List Tr} (hR : ∀ b, R b → b < B) (h : OwnV w B 35 v (ks.map nodeP)) : ∃ x : SlV, v = x.val ∧ x.ks = ks ∧ x.At R w := by
  rcases h.2 with ⟨hv, h0⟩ | ⟨g, cap, cur, hv, hb, hg, hnc, r⟩
  · have : ks = [] := List.length_eq_zero_iff.1 (by simpa using h0)
    subst this
    exact ⟨⟨none, 0, []⟩, hv, rfl, fun i hi => by simp at hi, Nat.le_refl _, fun _ => rfl⟩
  · subst hv
    refine ⟨⟨some ⟨g, 0, none⟩, cap, ks⟩, by simp [SlV.val], rfl, ?_, by simpa using hnc, fun e => by cases e⟩
    intro i hi
    obtain ⟨g', hg', hc⟩ := h.at i (by simpa using hi)
    simp only [Option.some.injEq, Addr.mk.injEq] at hg'
    obtain ⟨rfl, _, _⟩ := hg'
    refine ⟨_, _, rfl, ?_, fun e => by have h8 := hR _ e; have h9 : B ≤ _ := (h.lt _ rfl).1; exact absurd h8 (Nat.not_lt.2 h9)⟩
    rw [Nat.zero_add, hc, List.getElem_map]
    rfl

set_option maxRecDepth 100000 in
set_option maxHeartbeats 1600000 in
theorem concat_calls (g c : Nat) (S : List SlV) (w : World) (hc0 : ∀ i (h : i < S.length), w.cell? ⟨g, i, none⟩ = some (.slice S[i].ao S[i].ks.length S[i].cap)) (hS : ∀ x ∈ S, x.At R w) (hl : (allOf S).length ≤ 1000) (hm : S.length ≤ 1000) (hR : ∀ b, R b → b < w.heap.size) :
    Calls Try.prog 55 #[.slice (some ⟨g, 0, none⟩) S.length c] w fun e w' => ∃ x : SlV, e = .returned x.val ∧ x.ks = allOf S ∧ x.At R w' ∧ Below w.heap.size w w' := by
  obtain ⟨i0, hi0, hz0, hz1, hz2⟩ := infoOf infoPN
  have HC : Hid (∀ i (h : i < S.length), w.cell? ⟨g, i, none⟩ = some (.slice S[i].ao S[i].ks.length S[i].cap)) := hc0
  clear hc0
  go_enter Try.func55, Try.ntmps55
  go_wp2
  go_loop [3, 11] (fun n i => ∃ j : Nat, j ≤ S.length ∧ i = .int .i64 j ∧ n = .int .i64 ((allOf (S.take j)).length : Int)) (fun _ i => S.length - (intOf i).toNat)
  case atStart => exact ⟨0, Nat.zero_le _, rfl, rfl⟩
  case round =>
    obtain ⟨j, hj, rfl, rfl⟩ := hrel
    have hle := allOf_take_le S j
    by_cases hlt : j < S.length
    · have hcj := HC.out j hlt
      have hle2 := allOf_at_le S j hlt
      have HSN : Hid ((allOf (S.take (j + 1))).length = (allOf (S.take j)).length + S[j].ks.length) := by show _ = _; rw [allOf_snoc S j hlt]; simp
      go_wp2
      go_round
      case rel => exact ⟨j + 1, by omega, by go_num, by rw [HSN.out]; go_num⟩
      case measure => simp [intOf]; omega
    · have hjl : j = S.length := by omega
      subst hjl
      rw [List.take_length]
      have HG := grow_calls (allOf S).length w hl
      go_wp2_with fail
      refine HG.mono ?_
      clear HG
      rintro e w1 ⟨v, rfl, ho, hb1, ao0, cap0, hv⟩
      subst hv
      have HO : Hid (OwnV w1 w.heap.size 35 (.slice ao0 0 cap0) []) := ho
      have HB1 : Hid (Below w.heap.size w w1) := hb1
      clear ho hb1
      go_wp2
      go_loopw [6, 27] (fun x i wr => ∃ (q : Nat) (y : Value), y = x ∧ q ≤ S.length ∧ i = .int .i64 q ∧ Hid (OwnV wr w.heap.size 35 x ((allOf (S.take q)).map nodeP)) ∧ Hid (Below w.heap.size w wr)) (fun _ i _ => S.length - (intOf i).toNat)
      case atStart => exact ⟨0, _, rfl, Nat.zero_le _, rfl, by show OwnV _ _ _ _ _; simpa [allOf] using HO.out, HB1⟩
      case round =>
        obtain ⟨q, x, rfl, hq, rfl, HX, HB⟩ := hrel
        by_cases hlt2 : q < S.length
        · have hcq := HC.out q hlt2
          have hlq := allOf_at_le S q hlt2
          have hAt := (hS _ (List.getElem_mem hlt2)).below HB.out
          have hBs := HB.out.size
          have hg0 : g < w.heap.size := World.block_lt_of_cell? w _ hcq
          have hcq' : wr.cell? ⟨g, q, none⟩ = some (.slice S[q].ao S[q].ks.length S[q].cap) := by rw [HB.out.cell (by exact hg0)]; exact hcq
          have HSN : Hid (allOf (S.take (q + 1)) = allOf (S.take q) ++ S[q].ks) := allOf_snoc S q hlt2
          have HLQ : Hid ((allOf (S.take q)).length + S[q].ks.length ≤ (allOf S).length) := hlq
          clear hcq
          revert hcq' hAt HSN HLQ hlq
          generalize S[q] = y
          intro hlq hAt hcq' HSN HLQ
          obtain ⟨yao, ycap, yks⟩ := y
          simp only at hcq' hlq HSN
          cases yao with
          | none =>
            have hn0 := hAt.nil rfl
            simp only at hn0
            subst hn0
            have hk0 : yks = [] := List.length_eq_zero_iff.1 (by have := hAt.room; simpa using this)
            subst hk0
            simp only [List.length_nil] at hcq'
            clear hAt hlq
            go_wp2_with (at_builtin; refine wpList_append_own_none rfl (.tmp 31) (.tmp 32) 65 rfl w.heap.size 35 i0 1 Try.underlying65 hi0 _ _ _ rfl HX.out rfl ?_)
            go_roundw
            case rel => exact ⟨q + 1, _, rfl, by omega, by go_num, by show OwnV _ _ _ _ _; rw [HSN.out]; simpa using HX.out, HB⟩
            case measure => simp [intOf]; omega
          | some ad =>
            have hnews : ∀ j u, (yks.map nodeP)[j]? = some u → wr.cell? (ad.add j) = some u := by
              rcases Nat.lt_or_ge 0 yks.length with h0 | h0
              · obtain ⟨b, off, he, _⟩ := hAt.kids 0 h0
                simp only [Option.some.injEq] at he
                subst he
                exact kids_news hAt.kids
              · have : yks = [] := List.length_eq_zero_iff.1 (by omega)
                subst this
                intro j u hj
                simp at hj
            clear hAt
            go_wp2_with (at_builtin; refine wpList_append_grew _ rfl (.tmp 31) (.tmp 32) 65 rfl w.heap.size 35 i0 (.pointer none) 1 8 Try.underlying65 hi0 hz0 hz1 hz2 rfl (by decide) _ _ _ rfl HX.out ad yks.length ycap (yks.map nodeP) rfl (by simp) hnews (by intro u hu; obtain ⟨t, _, rfl⟩ := List.mem_map.1 hu; rfl) (by unfold maxLen; simp; omega) (by simp; omega) hBs ?_)
            intro v1 w2 ho2 hg2 _
            have HX2 : Hid (OwnV w2 w.heap.size 35 v1 ((allOf (S.take (q + 1))).map nodeP)) := by
              show OwnV _ _ _ _ _
              rw [HSN.out, List.map_append]
              have e : (List.map nodeP (allOf (S.take q)) ++ yks.map nodeP).length = (allOf (S.take q)).length + yks.length := by simp
              unfold OwnV
              rw [e]
              exact ho2
            have HB2 : Hid (Below w.heap.size w w2) := HB.out.trans (hg2.toBelow hBs (fun k hk => (HX.out.lt k hk).1))
            clear ho2 hg2 hnews
            go_wp2
            go_roundw
            case rel => exact ⟨q + 1, _, rfl, by omega, by go_num, HX2, HB2⟩
            case measure => simp [intOf]; omega
        · have hql : q = S.length := by omega
          subst hql
          go_wp2
          go_ret
          have h1 := HX.out
          rw [List.take_length] at h1
          obtain ⟨y, rfl, hy, hAt⟩ := own_slice hR h1
          exact ⟨y, rfl, hy, hAt, HB.out⟩
end Go.Proofs.Ytcdfbbjakkmmoaa
