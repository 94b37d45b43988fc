/- Layer 5 (txn): the walk of TxnCounts. -/
import Derived.Test.YtpnmkfbdfggnaaaGreatTDone
namespace Go.Proofs.YtpnmkfbdfggnaaaGreat
open Go.RowKit
open scoped Classical
set_option linter.unusedVariables false

/-- Truth values lie one behind the other at the address. -/
def BoolsAt (w : World) (ao : Option Addr) (l : List Bool) : Prop := ∀ i (h : i < l.length), ∃ b off, ao = some ⟨b, off, none⟩ ∧ w.cell? ⟨b, off + i, none⟩ = some (.bool l[i])
theorem BoolsAt.below {w w' : World} {ao : Option Addr} {l : List Bool} (h : BoolsAt w ao l) (hb : Below w.heap.size w w') : BoolsAt w' ao l := fun i hi => by
  obtain ⟨b, off, ha, h0⟩ := h i hi
  exact ⟨b, off, ha, by rw [hb.cell (by exact World.block_lt_of_cell? w _ h0)]; exact h0⟩

/-- Within TxnCounts. -/
structure CoI (w : World) (bb vb tb : Nat) (T : Tr) (ne : Int) (en : List En) (j : Nat) (nm : Int) (W : World) : Prop where
  base : BaseAt W bb vb tb nm false
  held : Held W W tb T ne j en
  abv : Above w.heap.size T
  below : Below w.heap.size w W
  own : w.heap.size ≤ bb
  num : 0 ≤ nm ∧ nm ≤ j

set_option maxRecDepth 100000 in
set_option maxHeartbeats 8000000 in
theorem txnCounts_calls (ao bo : Option Addr) (cap cap' : Nat) (ks : List ByteArray) (bs : List Bool) (w : World) (hk : StrsAt w ao ks) (hbs : BoolsAt w bo bs) (hl : ks.length ≤ 8796093022208) (hl' : bs.length ≤ 9223372036854775807) :
    Calls Tryz.prog 8 #[.slice ao ks.length cap, .slice bo bs.length cap'] w fun e w' => e = .returned (.bool true) ∧ Below w.heap.size w w' := by
  have hnot : ∀ (x : Bool) (w : World), (Op.unary .not (.bool x)).run Tryz.prog w = .ok (.bool (!x)) w := fun _ _ => rfl
  have HA := txnAlive_calls w
  have HS : Hid (StrsAt w ao ks ∧ BoolsAt w bo bs) := ⟨hk, hbs⟩
  clear hk hbs
  go_enter Tryz.func8, Tryz.ntmps8
  go_wp2_with fail
  refine HA.mono ?_
  clear HA
  rintro e w1 ⟨rfl, hb1⟩
  have HB1 : Hid (Below w.heap.size w w1) := hb1
  clear hb1
  go_wp2_with fail
  refine (newBase_calls w1).mono ?_
  rintro e w2 ⟨bb, vb, tb, rfl, hb2, hB2, ⟨a, g, hT2, hW2, hBg⟩, hbb⟩
  have HI2 : Hid (CoI w bb vb tb (.nd a ⟨#[]⟩ none [] g) 0 [] 0 0 w2) :=
    ⟨hB2, bare_held hT2, .mk (Nat.lt_of_le_of_lt HB1.out.size hBg) (fun x e => by cases e) (fun c hc => by simp at hc), HB1.out.trans (hb2.mono HB1.out.size), Nat.le_trans HB1.out.size hbb, by decide⟩
  clear hb2 hB2 hT2 hW2 hBg hbb HB1
  go_wp2_with fail
  go_loopw [6, 17] (fun n i wr => ∃ (j vb tb : Nat) (T : Tr) (ne nm : Int) (en : List En), j ≤ ks.length ∧ n = .int .u64 nm ∧ i = .int .i64 j ∧ Hid (CoI w bb vb tb T ne en j nm wr)) (fun _ i _ => ks.length - (intOf i).toNat)
  case atStart => exact ⟨0, vb, tb, _, _, _, _, Nat.zero_le _, rfl, rfl, HI2⟩
  case round =>
    obtain ⟨j, vb, tb, T, ne, nm, en, hj, rfl, rfl, HI⟩ := hrel
    clear HI2
    by_cases hlt : j < ks.length
    · obtain ⟨b, off, rfl, c0, hsz⟩ := (HS.out.1.below HI.out.below) j hlt
      obtain ⟨k, hk⟩ : ∃ k, k = ks[j] := ⟨_, rfl⟩
      rw [← hk] at c0 hsz
      clear hk
      obtain ⟨w5, HW5⟩ : ∃ w5, Hid (w5 = wr.alloc (.cells #[.bool false, .string k, .int .i64 j] 57)) := ⟨_, rfl⟩
      have hb5 : Below wr.heap.size wr w5 := by rw [HW5.out]; exact (Below.refl _ _).alloc (Nat.le_refl _) _
      have q5 : w5.heap[wr.heap.size]? = some (.cells #[.bool false, .string k, .int .i64 j] 57) := by rw [HW5.out]; exact heap_alloc_new _ _
      have hch : ChAt w5 (some ⟨wr.heap.size, 0, none⟩) [(k, (j : Int))] := fun i hi => by
        simp at hi
        subst hi
        exact ⟨_, _, _, rfl, q5, rfl, rfl, rfl, hsz⟩
      have hnm := HI.out.num
      have HD1 : ∀ cm : Bool, _ := fun cm => done_calls bb vb tb nm T ne j en (some ⟨wr.heap.size, 0, none⟩) 1 [(k, (j : Int))] cm w.heap.size w5 (HI.out.base.below hb5) (HI.out.held.move (HI.out.held.good.tree.keep hb5)) HI.out.abv HI.out.own hch (by simp) (by simp; omega) (by omega)
      have HB5 : Hid (Below w.heap.size w w5 ∧ w.heap.size ≤ bb) := ⟨HI.out.below.trans (hb5.mono HI.out.below.size), HI.out.own⟩
      have HBS : Hid (BoolsAt wr bo bs) := HS.out.2.below HI.out.below
      clear hb5 q5 hch hsz HI
      -- behind the first
      have HN : Hid (∀ (cm : Bool) (w6 : World), DoneP bb cm 1 nm j w.heap.size w5 w6 → ∃ nm' : Int, nm' = (if cm then nm + 1 else nm) ∧ ∃ vb' tb' T' ne' en', CoI w bb vb' tb' T' ne' en' (j + 1) nm' w6) := fun cm w6 h6 => by
        obtain ⟨vb', tb', T', ne', en', h1, h2, h3, h4⟩ := h6
        refine ⟨_, rfl, vb', tb', T', ne', en', ?_, h2, h3, HB5.out.1.trans h4, HB5.out.2, ?_⟩
        · cases cm <;> simpa using h1
        · cases cm <;> simp <;> omega
      by_cases hbl : j < bs.length
      · obtain ⟨b2, off2, rfl, c1⟩ := HBS.out j hbl
        obtain ⟨cm, hcm⟩ : ∃ cm, cm = bs[j] := ⟨_, rfl⟩
        rw [← hcm] at c1
        clear hcm
        clear HBS
        cases cm with
        | true =>
          go_wp2_with fail
          rw [← HW5.out]
          clear HW5
          refine (HD1 true).mono ?_
          clear HD1
          rintro e w6 ⟨rfl, h6p⟩
          obtain ⟨nm6, hnm6, vb6, tb6, T6, ne6, en6, h6⟩ := HN.out true w6 h6p
          have HD2 := done_calls bb vb6 tb6 nm6 T6 ne6 (j + 1) en6 none 0 [] true w.heap.size w6 h6.base h6.held h6.abv h6.own (fun i hi => by simp at hi) (by simp) (by simp; omega) (by have := h6.num; omega)
          have hnm6 : nm6 = nm + 1 := by simpa using hnm6
          rw [hnm6] at HD2 h6
          have HB6 : Hid (Below w.heap.size w w6 ∧ w.heap.size ≤ bb ∧ (0 ≤ nm + 1 ∧ nm + 1 ≤ ((j + 1 : Nat) : Int))) := ⟨h6.below, h6.own, h6.num⟩
          clear h6 h6p HN HB5 hnm6
          rw [List.length_nil] at HD2
          go_wp2_with fail
          refine HD2.mono ?_
          clear HD2
          rintro e w7 ⟨rfl, vb7, tb7, T7, ne7, en7, h1, h2, h3, h4⟩
          have h1' : BaseAt w7 bb vb7 tb7 (nm + 1) false := by simpa using h1
          have HI7 : Hid (CoI w bb vb7 tb7 T7 ne7 en7 (j + 1) (nm + 1) w7) := ⟨h1', h2, h3, HB6.out.1.trans h4, HB6.out.2.1, HB6.out.2.2⟩
          have HV := version_calls bb vb7 tb7 (nm + 1) false w7 h1'
          clear h1 h1' h2 h3 h4 HB6
          go_wp2_with fail
          refine HV.mono ?_
          clear HV
          rintro e w8 ⟨rfl, hw8⟩
          rw [hw8]
          clear hw8 w8
          go_wp2_with fail
          go_roundw
          case rel => exact ⟨j + 1, vb7, tb7, T7, ne7, nm + 1, en7, by omega, rfl, by go_num, HI7⟩
          case measure => simp [intOf]; omega
        | false =>
          go_wp2_with fail
          rw [← HW5.out]
          clear HW5
          refine (HD1 false).mono ?_
          clear HD1
          rintro e w6 ⟨rfl, h6p⟩
          obtain ⟨nm6, hnm6, vb6, tb6, T6, ne6, en6, h6⟩ := HN.out false w6 h6p
          have HD2 := done_calls bb vb6 tb6 nm6 T6 ne6 (j + 1) en6 none 0 [] true w.heap.size w6 h6.base h6.held h6.abv h6.own (fun i hi => by simp at hi) (by simp) (by simp; omega) (by have := h6.num; omega)
          have hnm6 : nm6 = nm := by simpa using hnm6
          rw [hnm6] at HD2 h6
          have HB6 : Hid (Below w.heap.size w w6 ∧ w.heap.size ≤ bb ∧ (0 ≤ nm ∧ nm ≤ ((j + 1 : Nat) : Int))) := ⟨h6.below, h6.own, h6.num⟩
          clear h6 h6p HN HB5 hnm6
          rw [List.length_nil] at HD2
          go_wp2_with fail
          refine HD2.mono ?_
          clear HD2
          rintro e w7 ⟨rfl, vb7, tb7, T7, ne7, en7, h1, h2, h3, h4⟩
          have h1' : BaseAt w7 bb vb7 tb7 (nm) false := by simpa using h1
          have HI7 : Hid (CoI w bb vb7 tb7 T7 ne7 en7 (j + 1) (nm) w7) := ⟨h1', h2, h3, HB6.out.1.trans h4, HB6.out.2.1, HB6.out.2.2⟩
          have HV := version_calls bb vb7 tb7 (nm) false w7 h1'
          clear h1 h1' h2 h3 h4 HB6
          go_wp2_with fail
          refine HV.mono ?_
          clear HV
          rintro e w8 ⟨rfl, hw8⟩
          rw [hw8]
          clear hw8 w8
          go_wp2_with fail
          go_roundw
          case rel => exact ⟨j + 1, vb7, tb7, T7, ne7, nm, en7, by omega, rfl, by go_num, HI7⟩
          case measure => simp [intOf]; omega
      · clear HBS
        go_wp2_with fail
        rw [← HW5.out]
        clear HW5
        refine (HD1 false).mono ?_
        clear HD1
        rintro e w6 ⟨rfl, h6p⟩
        obtain ⟨nm6, hnm6, vb6, tb6, T6, ne6, en6, h6⟩ := HN.out false w6 h6p
        have HD2 := done_calls bb vb6 tb6 nm6 T6 ne6 (j + 1) en6 none 0 [] true w.heap.size w6 h6.base h6.held h6.abv h6.own (fun i hi => by simp at hi) (by simp) (by simp; omega) (by have := h6.num; omega)
        have hnm6 : nm6 = nm := by simpa using hnm6
        rw [hnm6] at HD2 h6
        have HB6 : Hid (Below w.heap.size w w6 ∧ w.heap.size ≤ bb ∧ (0 ≤ nm ∧ nm ≤ ((j + 1 : Nat) : Int))) := ⟨h6.below, h6.own, h6.num⟩
        clear h6 h6p HN HB5 hnm6
        rw [List.length_nil] at HD2
        go_wp2_with fail
        refine HD2.mono ?_
        clear HD2
        rintro e w7 ⟨rfl, vb7, tb7, T7, ne7, en7, h1, h2, h3, h4⟩
        have h1' : BaseAt w7 bb vb7 tb7 (nm) false := by simpa using h1
        have HI7 : Hid (CoI w bb vb7 tb7 T7 ne7 en7 (j + 1) (nm) w7) := ⟨h1', h2, h3, HB6.out.1.trans h4, HB6.out.2.1, HB6.out.2.2⟩
        have HV := version_calls bb vb7 tb7 (nm) false w7 h1'
        clear h1 h1' h2 h3 h4 HB6
        go_wp2_with fail
        refine HV.mono ?_
        clear HV
        rintro e w8 ⟨rfl, hw8⟩
        rw [hw8]
        clear hw8 w8
        go_wp2_with fail
        go_roundw
        case rel => exact ⟨j + 1, vb7, tb7, T7, ne7, nm, en7, by omega, rfl, by go_num, HI7⟩
        case measure => simp [intOf]; omega
    · have hjl : j = ks.length := by omega
      subst hjl
      have HF : Hid (Below w.heap.size w wr) := HI.out.below
      clear HI HS
      go_wp2
      go_ret
      exact ⟨rfl, HF.out⟩
end Go.Proofs.YtpnmkfbdfggnaaaGreat
