import Derived.Test.YtbpmahchinblhaaDoorSRSame
import Derived.Test.YtbpmahchinblhaaDoorSPure2
import Derived.Test.YtbpmahchinblhaaDoorSIndex
/- Layer 6 (schema): the document's Same, for equal schemas. -/
namespace Go.Proofs.YtbpmahchinblhaaDoor
open Go.RowKit
set_option linter.unusedVariables false

/-- Same's own two schemas lie in memory. -/
structure TwoS (w : World) (ao bo : Option Addr) (cap cap2 : Nat) (ts us : List TV) (W : World) : Prop where
  a0 : W.cell? ⟨w.heap.size, 0, none⟩ = some (.slice ao ts.length cap)
  b0 : W.cell? ⟨w.heap.size + 1, 0, none⟩ = some (.slice bo us.length cap2)
  t : TabsRd W ao ts
  u : TabsRd W bo us
  below : Below w.heap.size w W
theorem TwoS.next {w : World} {ao bo : Option Addr} {cap cap2 : Nat} {ts us : List TV} {W W' : World} (h : TwoS w ao bo cap cap2 ts us W) (hb : Below W.heap.size W W') : TwoS w ao bo cap cap2 ts us W' := by
  have c : ∀ {a : Addr} {v : Value}, W.cell? a = some v → W'.cell? a = some v := fun {a v} e => by rw [hb.cell (by exact World.block_lt_of_cell? W _ e)]; exact e
  exact ⟨c h.a0, c h.b0, h.t.below hb, h.u.below hb, h.below.trans (hb.mono h.below.size)⟩

set_option maxRecDepth 100000 in
set_option maxHeartbeats 4000000 in
theorem same_calls (ao bo : Option Addr) (cap cap2 : Nat) (ts us : List TV) (w : World) (ht : TabsRd w ao ts) (hu : TabsRd w bo us) (he : tbs ts = tbs us) :
    Calls Tryd.prog 7 #[.agg #[.slice ao ts.length cap], .agg #[.slice bo us.length cap2]] w fun e w' => e = .returned (.bool true) ∧ Below w.heap.size w w' := by
  have hlen : ts.length = us.length := by have := congrArg List.length he; simpa [tbs] using this
  have HW : Hid (TwoS w ao bo cap cap2 ts us ((w.alloc (.cells #[.slice ao ts.length cap] 25)).alloc (.cells #[.slice bo us.length cap2] 25))) := by
    have hb1 := (Below.refl w.heap.size w).alloc (Nat.le_refl _) (.cells #[.slice ao ts.length cap] 25)
    have hb2 := hb1.alloc hb1.size (.cells #[.slice bo us.length cap2] 25)
    have o1 := old_blk (new_blk w (.cells #[.slice ao ts.length cap] 25)) (.cells #[.slice bo us.length cap2] 25)
    have o2 := new_blk (w.alloc (.cells #[.slice ao ts.length cap] 25)) (.cells #[.slice bo us.length cap2] 25)
    have e2 : (w.alloc (.cells #[.slice ao ts.length cap] 25)).heap.size = w.heap.size + 1 := by simp
    rw [e2] at o2
    exact ⟨cell_blk o1, cell_blk o2, ht.below hb2, hu.below hb2, hb2⟩
  have HX : Hid (tbs ts = tbs us) := he
  have hm := hu.most
  have HL : Hid (ts.length = us.length) := hlen
  rw [hlen] at HW ⊢
  clear ht hu he hlen
  go_enter Tryd.func7, Tryd.ntmps7
  go_wp2
  go_loopw [5, 16] (fun y i wr => ∃ k : Nat, k ≤ us.length ∧ i = .int .i64 k ∧ Hid (TwoS w ao bo cap cap2 ts us wr)) (fun _ i _ => us.length - (intOf i).toNat)
  case atStart => exact ⟨0, Nat.zero_le _, rfl, HW⟩
  case round =>
    obtain ⟨k, hk, rfl, HW1⟩ := hrel
    clear HW
    by_cases hlt : k < us.length
    · have a0 := HW1.out.a0
      have b0 := HW1.out.b0
      have hlx : k < ts.length := by rw [HL.out]; exact hlt
      rw [HL.out] at a0
      obtain ⟨ab, ao, h1, c0, c1, c2⟩ := HW1.out.t.row.tab k hlx
      obtain ⟨bb, bo, h2, d0, d1, d2⟩ := HW1.out.u.row.tab k hlt
      subst h1 h2
      have HT : Hid (TabRd wr ts[k] ∧ TabRd wr us[k] ∧ ts[k].tb = us[k].tb) := by
        refine ⟨HW1.out.t.tab (List.getElem_mem hlx), HW1.out.u.tab (List.getElem_mem hlt), ?_⟩
        have := congrArg (fun l => l[k]?) HX.out
        simpa only [tbs, List.getElem?_map, List.getElem?_eq_getElem hlx, List.getElem?_eq_getElem hlt, Option.map_some, Option.some.injEq] using this
      obtain ⟨T, hT⟩ : ∃ T, T = ts[k] := ⟨_, rfl⟩
      obtain ⟨U, hU⟩ : ∃ U, U = us[k] := ⟨_, rfl⟩
      rw [← hT, ← hU] at HT
      rw [← hT] at c0 c1 c2
      rw [← hU] at d0 d1 d2
      clear hT hU
      go_wp2_with fail
      go_region_held3 (fun W => W.cell? ⟨w.heap.size, 0, none⟩ = some (.slice (some ⟨ab, ao, none⟩) us.length cap) ∧ W.cell? ⟨w.heap.size + 1, 0, none⟩ = some (.slice (some ⟨bb, bo, none⟩) us.length cap2)
          ∧ W.cell? ⟨ab, ao + k * 3, none⟩ = some (.string T.n) ∧ W.cell? ⟨ab, ao + k * 3 + 1, none⟩ = some (.slice T.fa T.fs.length T.fc) ∧ W.cell? ⟨ab, ao + k * 3 + 2, none⟩ = some (.slice T.xa T.xs.length T.xc)
          ∧ W.cell? ⟨bb, bo + k * 3, none⟩ = some (.string U.n) ∧ W.cell? ⟨bb, bo + k * 3 + 1, none⟩ = some (.slice U.fa U.fs.length U.fc) ∧ W.cell? ⟨bb, bo + k * 3 + 2, none⟩ = some (.slice U.xa U.xs.length U.xc))
        (first | (exact q3) | go_keep)
        (first
          | (go_at_call 15
             refine (sameTable_calls T U wr.drew (HT.out.1.below ((Below.refl _ _).drew)) (HT.out.2.1.below ((Below.refl _ _).drew)) HT.out.2.2).mono ?_
             rintro e w3 ⟨rfl, hb3⟩
             have HB3 : Hid (Below wr.heap.size wr w3) := ⟨hb3.os, hb3.tape, hb3.output, hb3.size, hb3.block⟩
             have q3 : w3.cell? ⟨w.heap.size, 0, none⟩ = some (.slice (some ⟨ab, ao, none⟩) us.length cap) ∧ w3.cell? ⟨w.heap.size + 1, 0, none⟩ = some (.slice (some ⟨bb, bo, none⟩) us.length cap2)
                ∧ w3.cell? ⟨ab, ao + k * 3, none⟩ = some (.string T.n) ∧ w3.cell? ⟨ab, ao + k * 3 + 1, none⟩ = some (.slice T.fa T.fs.length T.fc) ∧ w3.cell? ⟨ab, ao + k * 3 + 2, none⟩ = some (.slice T.xa T.xs.length T.xc)
                ∧ w3.cell? ⟨bb, bo + k * 3, none⟩ = some (.string U.n) ∧ w3.cell? ⟨bb, bo + k * 3 + 1, none⟩ = some (.slice U.fa U.fs.length U.fc) ∧ w3.cell? ⟨bb, bo + k * 3 + 2, none⟩ = some (.slice U.xa U.xs.length U.xc) := by
               have c : ∀ {a : Addr} {v : Value}, wr.cell? a = some v → w3.cell? a = some v := fun {a v} e => by rw [HB3.out.cell (by exact World.block_lt_of_cell? wr _ e)]; exact e
               exact ⟨c a0, c b0, c c0, c c1, c c2, c d0, c d1, c d2⟩
             clear hb3))
      have HW2 : Hid (TwoS w (some ⟨ab, ao, none⟩) (some ⟨bb, bo, none⟩) cap cap2 ts us w3) := HW1.out.next HB3.out
      clear HW1 HB3 q3
      go_wp2
      go_roundw
      case rel => exact ⟨k + 1, by omega, by go_num, HW2⟩
      case measure => simp [intOf]; omega
    · go_wp2
      go_ret
      exact ⟨rfl, HW1.out.below⟩
end Go.Proofs.YtbpmahchinblhaaDoor

/- On the seat of layer 6 (schema) SGen is this: the templates that hold its declarations. -/
