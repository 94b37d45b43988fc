/- Layer 3 (radix): the walk of RadixForgets. -/
import Derived.Test.YtedgaiblcpekaaaRForM
namespace Go.Proofs.Ytedgaiblcpekaaa
open Go.RowKit
set_option linter.unusedVariables false

theorem infoStr : (Try.prog.info? 9).map (fun i => (i.zero, i.size, i.bytes)) = some (some (.string ⟨#[]⟩), 1, 16) := by kernel_rfl

/-- The tree put in backwards. -/
structure BackI (w W : World) (ks : List ByteArray) (p tA tB : Nat) (A B : Tr) (nA nB : Int) (d : Nat) : Prop where
  a : Full w W tA A nA ks.length (KeyFrom ks 0)
  b : Full w W tB B nB d (KeyFrom ks p)
  d : d ≤ ks.length - p

theorem ownV_below {w w' : World} {B : Nat} {e : TypeId} {v : Value} {l : List Value} (h : OwnV w B e v l) (hb : Below w.heap.size w w') : OwnV w' B e v l := by
  refine ⟨h.1, ?_⟩
  rcases h.2 with h0 | ⟨g, cap, cur, e1, e2, hg, r⟩
  · exact .inl h0
  · exact .inr ⟨g, cap, cur, e1, e2, (hb.block _ (lt_of_heap hg)).trans hg, r⟩

/-- The strangers that are none of ours. -/
structure MineI (wS W : World) (B : Tr) (j : Nat) (v : Value) (mine : List ByteArray) : Prop where
  below : Below wS.heap.size wS W
  own : OwnV W wS.heap.size 9 v (mine.map .string)
  len : mine.length ≤ j
  sz : ∀ m ∈ mine, m.size ≤ 140737488351232
  new : ∀ m ∈ mine, ∀ x, ¬ Has B m.data.toList x

def keysOf (l : List ByteArray) : List (List UInt8) := l.map (·.data.toList)
def PutH (ks mine : List ByteArray) (j : Nat) (k : List UInt8) (x : Value) : Prop := (k ∈ keysOf (mine.take j) ∧ x = .int .i64 1) ∨ (k ∉ keysOf (mine.take j) ∧ KeyFrom ks 0 k x)
def OutH (ks mine : List ByteArray) (j : Nat) (k : List UInt8) (x : Value) : Prop := k ∉ keysOf (mine.take j) ∧ PutH ks mine mine.length k x
theorem keys_succ {mine : List ByteArray} {j : Nat} (hj : j < mine.length) (k : List UInt8) : k ∈ keysOf (mine.take (j + 1)) ↔ k ∈ keysOf (mine.take j) ∨ k = mine[j].data.toList := by
  unfold keysOf
  rw [List.take_succ_eq_append_getElem hj, List.map_append, List.mem_append]
  simp
theorem putH_succ {ks mine : List ByteArray} {j : Nat} (hj : j < mine.length) (k : List UInt8) (x : Value) : ((k = mine[j].data.toList ∧ x = .int .i64 1) ∨ (k ≠ mine[j].data.toList ∧ PutH ks mine j k x)) ↔ PutH ks mine (j + 1) k x := by
  unfold PutH
  rw [keys_succ hj]
  by_cases e : k = mine[j].data.toList
  · simp [e]
  · simp [e]
theorem outH_succ {ks mine : List ByteArray} {j : Nat} (hj : j < mine.length) (k : List UInt8) (x : Value) : (k ≠ mine[j].data.toList ∧ OutH ks mine j k x) ↔ OutH ks mine (j + 1) k x := by
  unfold OutH
  rw [keys_succ hj]
  by_cases e : k = mine[j].data.toList
  · simp [e]
  · simp [e]
theorem outH_end {ks mine : List ByteArray} (h : ∀ m ∈ mine, ∀ x, ¬ KeyFrom ks 0 m.data.toList x) (k : List UInt8) (x : Value) : OutH ks mine mine.length k x ↔ KeyFrom ks 0 k x := by
  unfold OutH PutH
  rw [List.take_length]
  constructor
  · rintro ⟨h1, ⟨h2, -⟩ | ⟨-, h2⟩⟩
    · exact absurd h2 h1
    · exact h2
  · intro hx
    have hn : k ∉ keysOf mine := fun e => by
      obtain ⟨m, hm, rfl⟩ := List.mem_map.1 e
      exact h m hm x hx
    exact ⟨hn, .inr ⟨hn, hx⟩⟩
theorem putH_zero (ks mine : List ByteArray) (k : List UInt8) (x : Value) : KeyFrom ks 0 k x ↔ PutH ks mine 0 k x := by
  unfold PutH keysOf
  simp
theorem outH_zero (ks mine : List ByteArray) (k : List UInt8) (x : Value) : PutH ks mine mine.length k x ↔ OutH ks mine 0 k x := by
  unfold OutH keysOf
  simp

structure ThreeI (w W : World) (ks mine : List ByteArray) (am : Option Addr) (tA tB tC : Nat) (A B C : Tr) (nA nB nC : Int) (dB dC : Nat) (H : List UInt8 → Value → Prop) : Prop where
  a : Full w W tA A nA ks.length (KeyFrom ks 0)
  b : Full w W tB B nB dB (KeyFrom ks 0)
  c : Full w W tC C nC dC H
  s : StrsAt W am mine

set_option maxRecDepth 100000 in
set_option maxHeartbeats 4000000 in
theorem forgets_walk (ao ao' : Option Addr) (cap cap' : Nat) (ks ss : List ByteArray) (w : World) (hk : StrsAt w ao ks) (hs : StrsAt w ao' ss) (hl : ks.length ≤ 8796093021952) (hl' : ss.length ≤ 8796093021952) :
    Calls Try.prog 5 #[.slice ao ks.length cap, .slice ao' ss.length cap'] w fun e w' => e = .returned (.bool true) ∧ Below w.heap.size w w' := by
  have hnot : ∀ (x : Bool) (w : World), (Op.unary .not (.bool x)).run Try.prog w = .ok (.bool (!x)) w := fun _ _ => rfl
  go_enter Try.func5, Try.ntmps5
  go_wp2_with fail
  refine (alive3_calls w).mono ?_
  rintro e w1 ⟨rfl, hb1⟩
  have HBU := built_calls ao cap ks w1 (hk.below hb1) (by omega)
  have HB1 : Hid (Below w.heap.size w w1) := hb1
  have HSK : Hid (StrsAt w ao ks ∧ StrsAt w ao' ss) := ⟨hk, hs⟩
  clear hb1 hk hs
  go_wp2_with fail
  refine HBU.mono ?_
  clear HBU
  rintro e w2 ⟨tA, A, nA, rfl, hG0, hCh⟩
  have HA2 : Hid (Full w w2 tA A nA ks.length (KeyFrom ks 0)) := ⟨⟨HB1.out.trans (hG0.below.mono HB1.out.size), hG0.tree, hG0.wf, hG0.root, hG0.dep, hG0.lo, hG0.hi⟩, hCh.full.1, hCh.full.2.1, hCh.full.2.2⟩
  clear hG0 hCh HB1
  go_wp2_with fail
  refine (newTree_calls w2).mono ?_
  rintro e w3 ⟨tB, a, g, rfl, hb3, ht3, -, -, -⟩
  have HI3 : Hid (BackI w w3 ks ks.length tA tB A (.nd a kE none [] g) nA 0 0) := by
    refine ⟨HA2.out.keep hb3, ⟨⟨HA2.out.good.below.trans (hb3.mono HA2.out.good.below.size), ht3, leaf_wf _ _ _ _, rfl, leaf_dep (by omega), by omega, by omega⟩, leaf_canon, Cnt.zero _ _ _, fun k x => ?_⟩, by omega⟩
    rw [has_nd]
    constructor
    · rintro (⟨y, h, -⟩ | ⟨c, h, -⟩)
      · cases h
      · simp at h
    · exact fun h => absurd h (keyFrom_end ks k x)
  clear hb3 ht3 HA2
  go_wp2_with fail
  go_loopw [6, 7] (fun s6 i wr => ∃ (p tB : Nat) (B : Tr) (nB : Int) (d : Nat), p ≤ ks.length ∧ i = .int .i64 ((p : Int) - 1) ∧ s6 = .pointer (some ⟨tB, 0, none⟩) ∧ Hid (BackI w wr ks p tA tB A B nA nB d)) (fun _ i _ => (intOf i + 1).toNat)
  case atStart => exact ⟨ks.length, tB, _, 0, 0, Nat.le_refl _, rfl, rfl, HI3⟩
  case round =>
    obtain ⟨p, tB, B, nB, d, hp, rfl, rfl, HI⟩ := hrel
    cases p with
    | succ p =>
      have hlt : p < ks.length := by omega
      have hpi : ((p + 1 : Nat) : Int) - 1 = (p : Int) := by omega
      rw [hpi]
      obtain ⟨b, off, hao, hc, hsz⟩ := (HSK.out.1.below HI.out.a.good.below) p hlt
      subst hao
      have hG := HI.out.b.good
      obtain ⟨init, c, hA⟩ := along_split (k := ks[p].data.toList) hG.wf
      have hlen := hA.len hG.dep
      have hlo := hG.lo
      have hhi := hG.hi
      have hdd := HI.out.d
      have HGT := get_tree tB B nB ks[p] wr init c hG.tree hG.wf (root_pre hG.root _) hsz hA
      have HA : Hid (Along ks[p].data.toList B (init ++ [c])) := hA
      clear hG hA
      go_wp2_with fail
      refine HGT.mono ?_
      clear HGT
      rintro e w4 ⟨rfl, hb4⟩
      have hc4 : w4.cell? ⟨b, off + p, none⟩ = some (.string ks[p]) := by rw [hb4.cell (World.block_lt_of_cell? wr _ hc)]; exact hc
      have HI4 : Hid (BackI w w4 ks (p + 1) tA tB A B nA nB d) := ⟨HI.out.a.keep hb4, HI.out.b.keep hb4, HI.out.d⟩
      have HFA : Hid (∀ x, Has B ks[p].data.toList x ↔ ∃ y, valAt c ks[p] = some y ∧ y.x = x) := has_along HA.out rfl HI.out.b.good.wf (root_pre HI.out.b.good.root _)
      clear hb4 hc HI
      cases hva : valAt c ks[p] with
      | some y =>
        have HI5 : Hid (BackI w w4 ks p tA tB A B nA nB d) := ⟨HI4.out.a, HI4.out.b.congr fun k x => keyFrom_old hlt ((HI4.out.b.has _ _).1 ((HFA.out y.x).2 ⟨y, hva, rfl⟩)) k x, by have := HI4.out.d; omega⟩
        obtain ⟨z, hz⟩ : ∃ z, z = held (some y) := ⟨_, rfl⟩
        rw [← hz]
        simp only [Option.isSome_some]
        clear HI4 HFA HA hva
        go_wp2_with fail
        go_roundw
        case rel => exact ⟨p, tB, B, nB, d, by omega, by go_num, rfl, HI5⟩
        case measure => first | (simp [intOf]; done) | (simp [intOf]; omega)
      | none =>
        simp only [held, Option.isSome_none]
        have HC := insert_calls tB B nB ks[p] (p : Int) w4 init c HI4.out.b.good.tree HI4.out.b.good.wf (root_pre HI4.out.b.good.root _) hsz HA.out (by simp at hlen; omega) hlo (by omega)
        go_wp2_with fail
        refine HC.mono ?_
        clear HC
        rintro e w5 ⟨tB2, B2, va, vg, rfl, hb5, ht5, hi5, -, -, -⟩
        have HI5 : Hid (BackI w w5 ks p tA tB2 A B2 nA (nB + plusNew (valAt c ks[p])) (d + 1)) := ⟨HI4.out.a.keep hb5, (HI4.out.b.insert hb5 ht5 hi5 HA.out).congr fun k x => keyFrom_new hlt (fun y hy => by
          obtain ⟨z, hz, -⟩ := (HFA.out y).1 ((HI4.out.b.has _ _).2 hy)
          rw [hva] at hz; cases hz) k x, by have := HI4.out.d; omega⟩
        clear hb5 ht5 hi5 HI4 HFA
        rw [hva]
        simp only [held, Option.isSome_none]
        go_wp2_with fail
        go_roundw
        case rel => exact ⟨p, tB2, B2, _, d + 1, by omega, by go_num, rfl, HI5⟩
        case measure => first | (simp [intOf]; done) | (simp [intOf]; omega)
    | zero =>
      rw [show ((0 : Nat) : Int) - 1 = -1 from rfl]
      go_wp2_with fail
      obtain ⟨wS, hwS⟩ : ∃ wS, wS = wr := ⟨_, rfl⟩
      subst hwS
      have HM0 : Hid (MineI wS (wS.alloc (.cells #[] 9)) B 0 (.slice (some ⟨wS.heap.size, 0, none⟩) 0 0) []) :=
        ⟨(Below.refl _ _).alloc (Nat.le_refl _) _, ⟨by simp, .inr ⟨wS.heap.size, 0, #[], rfl, Nat.le_refl _, heap_alloc_new _ _, Nat.le_refl _, by simp [maxLen], by simp, by simp⟩⟩, by simp, fun m hm => by simp at hm, fun m hm => by simp at hm⟩
      go_loopw [10, 65] (fun s10 i wr => ∃ (j : Nat) (mine : List ByteArray) (v10 : Value), v10 = s10 ∧ j ≤ ss.length ∧ i = .int .i64 j ∧ Hid (MineI wS wr B j s10 mine)) (fun _ i _ => ss.length - (intOf i).toNat)
      case atStart => exact ⟨0, [], _, rfl, Nat.zero_le _, rfl, HM0⟩
      case round =>
        obtain ⟨j, mine, s10, hs10, hj, rfl, HM⟩ := hrel
        subst hs10
        by_cases hlt : j < ss.length
        · have hbw : Below w.heap.size w wr := HI.out.a.good.below.trans (HM.out.below.mono HI.out.a.good.below.size)
          obtain ⟨b, off, hao, hc, hsz⟩ := (HSK.out.2.below hbw) j hlt
          subst hao
          have hF := HI.out.b.keep HM.out.below
          obtain ⟨init, c, hA⟩ := along_split (k := ss[j].data.toList) hF.good.wf
          have HGT := get_tree tB B nB ss[j] wr init c hF.good.tree hF.good.wf (root_pre hF.good.root _) hsz hA
          have HFA : Hid (∀ x, Has B ss[j].data.toList x ↔ ∃ y, valAt c ss[j] = some y ∧ y.x = x) := has_along hA rfl hF.good.wf (root_pre hF.good.root _)
          clear hF hA hbw
          go_wp2_with fail
          refine HGT.mono ?_
          clear HGT
          rintro e w4 ⟨rfl, hb4⟩
          have HM4 : Hid (MineI wS w4 B j s10 mine) := ⟨HM.out.below.trans (hb4.mono HM.out.below.size), ownV_below HM.out.own hb4, HM.out.len, HM.out.sz, HM.out.new⟩
          clear hb4 HM hc
          cases hva : valAt c ss[j] with
          | some y =>
            have HM5 : Hid (MineI wS w4 B (j + 1) s10 mine) := ⟨HM4.out.below, HM4.out.own, by have := HM4.out.len; omega, HM4.out.sz, HM4.out.new⟩
            obtain ⟨z, hz⟩ : ∃ z, z = held (some y) := ⟨_, rfl⟩
            rw [← hz]
            simp only [Option.isSome_some]
            clear HM4 HFA hva
            go_wp2_with fail
            go_roundw
            case rel => exact ⟨j + 1, mine, _, rfl, by omega, by go_num, HM5⟩
            case measure => first | (simp [intOf]; done) | (simp [intOf]; omega)
          | none =>
            simp only [held, Option.isSome_none]
            have ho := HM4.out.own
            have hml := HM4.out.len
            have hbs := HM4.out.below.size
            go_wp2_with (at_builtin; refine append_val _ rfl (.tmp 77) (.tmp 79) 24 9 (.string ⟨#[]⟩) 16 Try.underlying24 infoStr rfl rfl wS.heap.size _ (mine.map .string) rfl (.string ss[j]) rfl _ rfl (by simp) ho (by simp; omega) (by simp; omega) hbs ?_)
            intro v1 w5 ho5 hg5
            have HM5 : Hid (MineI wS w5 B (j + 1) v1 (mine ++ [ss[j]])) := by
              refine ⟨HM4.out.below.trans (hg5.toBelow hbs (fun k hk => (HM4.out.own.lt k hk).1)), by rw [List.map_append]; exact ho5, by simp; omega, fun m hm => ?_, fun m hm x hx => ?_⟩
              · rcases List.mem_append.1 hm with hm | hm
                · exact HM4.out.sz m hm
                · simp at hm; subst hm; exact hsz
              · rcases List.mem_append.1 hm with hm | hm
                · exact HM4.out.new m hm x hx
                · simp at hm; subst hm
                  obtain ⟨y, hy, -⟩ := (HFA.out x).1 hx
                  rw [hva] at hy; cases hy
            clear ho5 hg5 ho HM4 HFA
            go_wp2_with fail
            go_roundw
            case rel => exact ⟨j + 1, _, _, rfl, by omega, by go_num, HM5⟩
            case measure => first | (simp [intOf]; done) | (simp [intOf]; omega)
        · have hjl : j = ss.length := by omega
          subst hjl
          obtain ⟨am, capm, hv⟩ := HM.out.own.shape
          rw [List.length_map] at hv
          have hml := HM.out.len
          have HT0 : Hid (ThreeI w wr ks mine am tA tB tA A B A nA nB nA d ks.length (PutH ks mine 0)) := by
            refine ⟨HI.out.a.keep HM.out.below, HI.out.b.keep HM.out.below, (HI.out.a.keep HM.out.below).congr (putH_zero ks mine), fun i hi => ?_⟩
            have ho := HM.out.own
            rw [hv] at ho
            obtain ⟨g, hg, hcell⟩ := ho.at i (by simpa using hi)
            exact ⟨g, 0, hg, by rw [Nat.zero_add, hcell]; simp, HM.out.sz _ (List.getElem_mem hi)⟩
          have HNEW : Hid (∀ m ∈ mine, ∀ x, ¬ KeyFrom ks 0 m.data.toList x) := fun m hm x hx => HM.out.new m hm x ((HI.out.b.has _ _).2 hx)
          have hdb := HI.out.d
          subst hv
          clear HM HI
          go_wp2_with fail
          go_loopw [15, 85] (fun s15 i wr => ∃ (j tC : Nat) (C : Tr) (nC : Int), j ≤ mine.length ∧ i = .int .i64 j ∧ s15 = .pointer (some ⟨tC, 0, none⟩) ∧ Hid (ThreeI w wr ks mine am tA tB tC A B C nA nB nC d (ks.length + j) (PutH ks mine j))) (fun _ i _ => mine.length - (intOf i).toNat)
          case atStart => exact ⟨0, tA, A, nA, Nat.zero_le _, rfl, rfl, HT0⟩
          case round =>
            obtain ⟨j, tC, C, nC, hj, rfl, rfl, HT⟩ := hrel
            by_cases hlt : j < mine.length
            · obtain ⟨b, off, hao, hc, hsz⟩ := HT.out.s j hlt
              subst hao
              have hG := HT.out.c.good
              obtain ⟨init, c, hA⟩ := along_split (k := mine[j].data.toList) hG.wf
              have hlen := hA.len hG.dep
              have hlo := hG.lo
              have hhi := hG.hi
              have HC := insert_calls tC C nC mine[j] 1 wr init c hG.tree hG.wf (root_pre hG.root _) hsz hA (by simp at hlen; omega) hlo (by omega)
              have HA : Hid (Along mine[j].data.toList C (init ++ [c])) := hA
              clear hG hA hlen
              go_wp2_with fail
              refine HC.mono ?_
              clear HC
              rintro e w5 ⟨tC2, C2, va, vg, rfl, hb5, ht5, hi5, -, -, -⟩
              have HT5 : Hid (ThreeI w w5 ks mine (some ⟨b, off, none⟩) tA tB tC2 A B C2 nA nB (nC + plusNew (valAt c mine[j])) d (ks.length + (j + 1)) (PutH ks mine (j + 1))) := ⟨HT.out.a.keep hb5, HT.out.b.keep hb5, (HT.out.c.insert hb5 ht5 hi5 HA.out).congr (putH_succ hlt), HT.out.s.below hb5⟩
              clear hb5 ht5 hi5 HT HA
              obtain ⟨z, hz⟩ : ∃ z, z = held (valAt c mine[j]) := ⟨_, rfl⟩
              rw [← hz]
              go_wp2_with fail
              go_roundw
              case rel => exact ⟨j + 1, tC2, C2, _, by omega, by go_num, rfl, HT5⟩
              case measure => first | (simp [intOf]; done) | (simp [intOf]; omega)
            · have hjl : j = mine.length := by omega
              subst hjl
              have HT0 : Hid (ThreeI w wr ks mine am tA tB tC A B C nA nB nC d (ks.length + mine.length) (OutH ks mine 0)) := ⟨HT.out.a, HT.out.b, HT.out.c.congr (outH_zero ks mine), HT.out.s⟩
              clear HT
              go_wp2_with fail
              go_loopw [15, 101] (fun s15 i wr => ∃ (j tC : Nat) (C : Tr) (nC : Int), j ≤ mine.length ∧ i = .int .i64 j ∧ s15 = .pointer (some ⟨tC, 0, none⟩) ∧ Hid (ThreeI w wr ks mine am tA tB tC A B C nA nB nC d (ks.length + mine.length) (OutH ks mine j))) (fun _ i _ => mine.length - (intOf i).toNat)
              case atStart => exact ⟨0, tC, C, nC, Nat.zero_le _, rfl, rfl, HT0⟩
              case round =>
                obtain ⟨j, tC, C, nC, hj, rfl, rfl, HT⟩ := hrel
                by_cases hlt : j < mine.length
                · obtain ⟨b, off, hao, hc, hsz⟩ := HT.out.s j hlt
                  subst hao
                  have hG := HT.out.c.good
                  obtain ⟨init, c, hA⟩ := along_split (k := mine[j].data.toList) hG.wf
                  have hlen := hA.len hG.dep
                  have hlo := hG.lo
                  have hhi := hG.hi
                  have HC := delete_calls tC C nC mine[j] wr init c hG.tree hG.wf (root_pre hG.root _) hsz hA (by simp at hlen; omega) (by omega) (by omega)
                  have HA : Hid (Along mine[j].data.toList C (init ++ [c])) := hA
                  clear hG hA hlen
                  go_wp2_with fail
                  refine HC.mono ?_
                  clear HC
                  rintro e w5 ⟨hb5, ⟨hv, rfl⟩ | ⟨x, tC2, C2, hv, rfl, ht5, hi5, -⟩⟩
                  · have HT5 : Hid (ThreeI w w5 ks mine (some ⟨b, off, none⟩) tA tB tC A B C nA nB nC d (ks.length + mine.length) (OutH ks mine (j + 1))) := ⟨HT.out.a.keep hb5, HT.out.b.keep hb5, ((HT.out.c.gone HA.out hv).congr (outH_succ hlt)).keep hb5, HT.out.s.below hb5⟩
                    clear hb5 HT HA
                    go_wp2_with fail
                    go_roundw
                    case rel => exact ⟨j + 1, tC, C, _, by omega, by go_num, rfl, HT5⟩
                    case measure => first | (simp [intOf]; done) | (simp [intOf]; omega)
                  · have HT5 : Hid (ThreeI w w5 ks mine (some ⟨b, off, none⟩) tA tB tC2 A B C2 nA nB (nC - 1) d (ks.length + mine.length) (OutH ks mine (j + 1))) := ⟨HT.out.a.keep hb5, HT.out.b.keep hb5, (HT.out.c.delete hb5 ht5 hi5 HA.out hv).congr (outH_succ hlt), HT.out.s.below hb5⟩
                    clear hb5 ht5 hi5 HT HA
                    obtain ⟨z, hz⟩ : ∃ z, z = x.x := ⟨_, rfl⟩
                    rw [← hz]
                    go_wp2_with fail
                    go_roundw
                    case rel => exact ⟨j + 1, tC2, C2, _, by omega, by go_num, rfl, HT5⟩
                    case measure => first | (simp [intOf]; done) | (simp [intOf]; omega)
                · have hjl : j = mine.length := by omega
                  subst hjl
                  have hT := HT.out
                  have hCf := hT.c.congr (outH_end HNEW.out)
                  have hAI : AllInt A := allInt_of hT.a.has
                  have hAB : ∀ k x, Has A k x ↔ Has B k x := fun k x => (hT.a.has k x).trans (hT.b.has k x).symm
                  have hAC : ∀ k x, Has A k x ↔ Has C k x := fun k x => (hT.a.has k x).trans (hCf.has k x).symm
                  have hSB : Sim (fun _ x y => x = y) A B := canon_uniq hT.a.canon hT.a.good.wf hT.b.good.wf hT.b.canon (hT.a.good.root.trans hT.b.good.root.symm) hAB
                  have hSC : Sim (fun _ x y => x = y) A C := canon_uniq hT.a.canon hT.a.good.wf hCf.good.wf hCf.canon (hT.a.good.root.trans hCf.good.root.symm) hAC
                  have hnB : nB = nA := hT.b.cnt.uniq hT.a.cnt fun k => ⟨fun ⟨x, h⟩ => ⟨x, (hAB k x).2 h⟩, fun ⟨x, h⟩ => ⟨x, (hAB k x).1 h⟩⟩
                  have hnC : nC = nA := hCf.cnt.uniq hT.a.cnt fun k => ⟨fun ⟨x, h⟩ => ⟨x, (hAC k x).2 h⟩, fun ⟨x, h⟩ => ⟨x, (hAC k x).1 h⟩⟩
                  subst hnB hnC
                  have HE : Hid (∀ W, Below wr.heap.size wr W → (TreeAt W tA A nC ∧ TreeAt W tB B nC ∧ TreeAt W tC C nC) ∧ Below w.heap.size w W) := fun W hW => ⟨⟨hT.a.good.tree.keep hW, hT.b.good.tree.keep hW, hT.c.good.tree.keep hW⟩, hT.a.good.below.trans (hW.mono hT.a.good.below.size)⟩
                  have HQ : Hid (∀ W, Below wr.heap.size wr W → Calls Try.prog 24 #[nodeV A, nodeV B] W fun e w' => e = .returned (.bool true) ∧ Below W.heap.size W w') := fun W hW => alike_calls _ A B W hT.a.good.dep (HE.out W hW).1.1.tat (HE.out W hW).1.2.1.tat hT.a.good.wf hT.b.good.wf hAI hSB
                  have HQ2 : Hid (∀ W, Below wr.heap.size wr W → Calls Try.prog 24 #[nodeV A, nodeV C] W fun e w' => e = .returned (.bool true) ∧ Below W.heap.size W w') := fun W hW => alike_calls _ A C W hT.a.good.dep (HE.out W hW).1.1.tat (HE.out W hW).1.2.2.tat hT.a.good.wf hCf.good.wf hAI hSC
                  have g0 : Below wr.heap.size wr wr := Below.refl _ _
                  clear hT hCf hAI hAB hAC hSB hSC HT HNEW
                  go_wp2_with fail
                  refine (root_calls tA A nC wr (HE.out wr g0).1.1).mono ?_
                  rintro e w5 ⟨rfl, hb5⟩
                  have g1 : Below wr.heap.size wr w5 := hb5
                  clear hb5 g0
                  go_wp2_with fail
                  refine (root_calls tB B nC w5 (HE.out w5 g1).1.2.1).mono ?_
                  rintro e w6 ⟨rfl, hb6⟩
                  have g2 : Below wr.heap.size wr w6 := g1.trans (hb6.mono g1.size)
                  clear hb6 g1
                  go_wp2_with fail
                  refine (HQ.out w6 g2).mono ?_
                  rintro e w7 ⟨rfl, hb7⟩
                  have g3 : Below wr.heap.size wr w7 := g2.trans (hb7.mono g2.size)
                  clear hb7 g2
                  go_wp2_with fail
                  refine (root_calls tA A nC w7 (HE.out w7 g3).1.1).mono ?_
                  rintro e w8 ⟨rfl, hb8⟩
                  have g4 : Below wr.heap.size wr w8 := g3.trans (hb8.mono g3.size)
                  clear hb8 g3
                  go_wp2_with fail
                  refine (root_calls tC C nC w8 (HE.out w8 g4).1.2.2).mono ?_
                  rintro e w9 ⟨rfl, hb9⟩
                  have g5 : Below wr.heap.size wr w9 := g4.trans (hb9.mono g4.size)
                  clear hb9 g4
                  go_wp2_with fail
                  refine (HQ2.out w9 g5).mono ?_
                  rintro e w10 ⟨rfl, hb10⟩
                  have g6 : Below wr.heap.size wr w10 := g5.trans (hb10.mono g5.size)
                  clear hb10 g5
                  go_wp2_with fail
                  refine (len_calls tA A nC w10 (HE.out w10 g6).1.1).mono ?_
                  rintro e _ ⟨rfl, rfl⟩
                  go_wp2_with fail
                  refine (len_calls tB B nC _ (HE.out _ g6).1.2.1).mono ?_
                  rintro e _ ⟨rfl, rfl⟩
                  go_wp2_with fail
                  refine (len_calls tA A nC _ (HE.out _ g6).1.1).mono ?_
                  rintro e _ ⟨rfl, rfl⟩
                  go_wp2_with fail
                  refine (len_calls tC C nC _ (HE.out _ g6).1.2.2).mono ?_
                  rintro e _ ⟨rfl, rfl⟩
                  go_wp2_with fail
                  go_ret
                  exact ⟨rfl, (HE.out _ g6).2⟩
end Go.Proofs.Ytedgaiblcpekaaa
