/- Layer 9 (records): the document's CopyService, SameService. -/
import Derived.Test.YtmkohdepgfahnaaGreatDoorRcFixS
import Derived.Test.YtmkohdepgfahnaaGreatDoorRcSameT
namespace Go.Proofs.YtmkohdepgfahnaaGreatDoor
open Go.RowKit
set_option linter.unusedVariables false

theorem ret_box1 {fn : Func} {R : Ending → World → Prop} {a : Act} {w : World} {g : Nat} {cs : Array Value} {T : TypeId} (hres : fn.results = #[.cell 2 T]) (ht : a.tmps.getD 2 undef = .pointer (some ⟨g, 0, none⟩)) (hd : a.defers = [])
    (hl : (loadVar T ⟨g, 0, none⟩).run Tryz.prog w = .ok (.agg cs) w) (hR : R (.returned (.agg cs)) w) : bodyPost Tryz.prog fn R .ret a w := by
  refine bodyPost_ret ?_ hd hR
  have ht' : a.tmps[2]?.getD undef = .pointer (some ⟨g, 0, none⟩) := by simpa using ht
  simp [results, hres, ht', asAddr, hl]
theorem row_set1 {w : World} {B g i : Nat} {e T : TypeId} {size : Nat} {v : Value} {n : Nat} {xs : List Value} {cs : Array Value} (hg : Blk w g cs T) (hT : T ≠ e) (h : w.ownsRow B e size v n xs) (u : Value) : (w.setCell ⟨g, i, none⟩ u).ownsRow B e size v n xs := by
  refine ⟨h.1, ?_⟩
  rcases h.2 with h1 | ⟨g', cap, cur, h1, h2, h3, h4⟩
  · exact .inl h1
  · refine .inr ⟨g', cap, cur, h1, h2, ?_, h4⟩
    rw [heap_setCell_other _ _ _ _ (fun e' => by
      have e' : g' = g := e'
      subst e'
      have hg' : w.heap[g']? = some (.cells cs T) := hg
      rw [h3] at hg'
      injection hg' with hg'
      injection hg' with _ hg'
      exact hT hg'.symm)]
    exact h3
theorem row_grewB {w w' : World} {b B : Nat} {e T : TypeId} {size : Nat} {v v' : Value} {n : Nat} {xs : List Value} {cs : Array Value} (hb : Blk w b cs T) (h : w.ownsRow B e size v n xs) (hg : Grew w w' v v') (hT : T ≠ e) : Blk w' b cs T := by
  refine (hg.grown.block _ hb.lt fun e' => ?_).trans hb
  rcases h.2 with ⟨rfl, _⟩ | ⟨g', cap, cur, rfl, h2, h3, h4⟩
  · simp [Value.ownBlock] at e'
  · simp [Value.ownBlock] at e'
    have hb' : w.heap[b]? = some (.cells cs T) := hb
    first | rw [← e'] at hb' | rw [e'] at hb'
    rw [h3] at hb'
    injection hb' with hb'
    injection hb' with _ hb'
    exact hT hb'.symm
/-- A copy is answered, its tags in memory of their own. -/
def CopA (w : World) (s : Sp) (e : Ending) (w' : World) : Prop := ∃ v, e = .returned (.agg (s.v v)) ∧ w'.ownsRow w.heap.size 9 1 v s.tags.length (s.tags.map Value.string) ∧ Below w.heap.size w w'

set_option maxRecDepth 100000 in
set_option maxHeartbeats 4000000 in
theorem copyService_calls (s : Sp) (ta : Option Addr) (tc : Nat) (w : World) (hl : s.tags.length ≤ 8796093022207) (hc : CellsAt w ta (s.tags.map Value.string)) :
    Calls Tryz.prog 44 #[.agg (s.v (.slice ta s.tags.length tc))] w fun e w' => CopA w s e w' := by
  have HC : Hid (CellsAt w ta (s.tags.map Value.string)) := hc
  clear hc
  obtain ⟨nd, id, nm, po, tg, mk, ch⟩ := s
  simp only [Sp.v] at *
  obtain ⟨tl, Htl⟩ : ∃ tl, Hid (tl = tg.length) := ⟨_, rfl⟩
  obtain ⟨L, HL⟩ : ∃ L, Hid (L = tg.map Value.string) := ⟨_, rfl⟩
  have HLl : Hid (L.length = tl * 1) := by rw [Hid, HL.out, Htl.out, List.length_map, Nat.mul_one]
  have HL1 : Hid (∀ u ∈ L, u.oneCell' = true) := fun u hu => by
    rw [HL.out] at hu
    obtain ⟨x, _, rfl⟩ := List.mem_map.1 hu
    rfl
  rw [← Htl.out] at hl ⊢
  rw [← HL.out] at HC
  have HFin : Hid (∀ v w', w'.ownsRow w.heap.size 9 1 v tl L → Below w.heap.size w w' → CopA w ⟨nd, id, nm, po, tg, mk, ch⟩ (.returned (.agg #[.string nd, .string id, .string nm, .int .i64 po, v, .int .u64 mk, .int .u64 ch])) w') := fun v w' h1 h2 => ⟨v, rfl, by rw [Htl.out, HL.out] at h1; exact h1, h2⟩
  clear HL
  obtain ⟨w2, Hw2⟩ : ∃ w2, Hid (w2 = ((w.alloc (.cells #[.string nd, .string id, .string nm, .int .i64 po, .slice ta tl tc, .int .u64 mk, .int .u64 ch] 51)).alloc (.cells #[.string ⟨#[]⟩, .string ⟨#[]⟩, .string ⟨#[]⟩, .int .i64 0, .slice none 0 0, .int .u64 0, .int .u64 0] 51)).alloc (.cells #[] 9)) := ⟨_, rfl⟩
  have hz : (w.alloc (.cells #[.string nd, .string id, .string nm, .int .i64 po, .slice ta tl tc, .int .u64 mk, .int .u64 ch] 51)).heap.size = w.heap.size + 1 := size_new _ _
  have hz2 : ((w.alloc (.cells #[.string nd, .string id, .string nm, .int .i64 po, .slice ta tl tc, .int .u64 mk, .int .u64 ch] 51)).alloc (.cells #[.string ⟨#[]⟩, .string ⟨#[]⟩, .string ⟨#[]⟩, .int .i64 0, .slice none 0 0, .int .u64 0, .int .u64 0] 51)).heap.size = w.heap.size + 1 + 1 := by rw [size_new, hz]
  have HX2 : Hid (Blk w2 w.heap.size #[.string nd, .string id, .string nm, .int .i64 po, .slice ta tl tc, .int .u64 mk, .int .u64 ch] 51) := by rw [Hw2.out]; exact ((Blk.new _ _ _).alloc _).alloc _
  have HR2 : Hid (Blk w2 (w.heap.size + 1) #[.string ⟨#[]⟩, .string ⟨#[]⟩, .string ⟨#[]⟩, .int .i64 0, .slice none 0 0, .int .u64 0, .int .u64 0] 51) := by rw [Hw2.out, ← hz]; exact (Blk.new _ _ _).alloc _
  have HB2 : Hid (Below w.heap.size w w2) := by rw [Hw2.out]; exact ((below_new w _).alloc (by rw [hz]; omega) _).alloc (by rw [hz2]; omega) _
  have HO2 : Hid (w2.ownsRow w.heap.size 9 1 (.slice (some ⟨w.heap.size + 1 + 1, 0, none⟩) 0 0) 0 []) := by
    rw [Hw2.out, ← hz2]
    exact World.ownsRow_lit (size := 1) _ #[] 0 (by rw [hz2]; omega) (by unfold maxLen; omega) rfl
  have HB2s : Hid (w.heap.size ≤ w2.heap.size) := HB2.out.size
  clear hz hz2
  go_enter Tryz.func44, Tryz.ntmps44
  go_wp2_with (at_builtin; rw [← Hw2.out]; refine append_src w2 rfl (.tmp 5) (.tmp 7) _ 9 _ 1 16 Tryz.underlying49 info_str rfl (by decide) rfl w.heap.size _ 0 [] rfl HO2.out ta tl tc L rfl HLl.out (HC.out.below HB2.out) HL1.out (by unfold maxLen; omega) (by omega) HB2s.out ?_)
  intro v3 w3 ho3 hg3
  have ho3 : w3.ownsRow w.heap.size 9 1 v3 tl L := by simpa using ho3
  obtain ⟨va, vc, rfl, -⟩ := row_forms ho3
  have HX3 : Hid (Blk w3 w.heap.size #[.string nd, .string id, .string nm, .int .i64 po, .slice ta tl tc, .int .u64 mk, .int .u64 ch] 51) := row_grewB HX2.out HO2.out hg3 (by decide)
  have HR3 : Hid (Blk w3 (w.heap.size + 1) #[.string ⟨#[]⟩, .string ⟨#[]⟩, .string ⟨#[]⟩, .int .i64 0, .slice none 0 0, .int .u64 0, .int .u64 0] 51) := row_grewB HR2.out HO2.out hg3 (by decide)
  have HB3 : Hid (Below w.heap.size w w3) := HB2.out.trans (hg3.toBelow HB2s.out fun j hj => (World.ownsRow.lt HO2.out j hj).1)
  have HO3 : Hid (w3.ownsRow w.heap.size 9 1 (.slice va tl vc) tl L) := ho3
  clear ho3 hg3 HX2 HR2 HB2 Hw2 HC HO2
  have b0 := HX3.out.cell 0 rfl
  have b1 := HX3.out.cell 1 rfl
  have b2 := HX3.out.cell 2 rfl
  have b3 := HX3.out.cell 3 rfl
  have b4 := HX3.out.cell 4 rfl
  have b5 := HX3.out.cell 5 rfl
  have b6 := HX3.out.cell 6 rfl
  have r0 := HR3.out.cell 0 rfl
  have r1 := HR3.out.cell 1 rfl
  have r2 := HR3.out.cell 2 rfl
  have r3 := HR3.out.cell 3 rfl
  have r4 := HR3.out.cell 4 rfl
  have r5 := HR3.out.cell 5 rfl
  have r6 := HR3.out.cell 6 rfl
  have zx := HX3.out.open
  have zr := HR3.out.open
  go_wp2
  have HRp : Hid (Blk (w3.setCell ⟨w.heap.size, 4, none⟩ (.slice va tl vc)) (w.heap.size + 1) #[.string ⟨#[]⟩, .string ⟨#[]⟩, .string ⟨#[]⟩, .int .i64 0, .slice none 0 0, .int .u64 0, .int .u64 0] 51) := by
    show (w3.setCell _ _).heap[_]? = _
    rw [heap_setCell_other _ _ _ _ (by show w.heap.size + 1 ≠ w.heap.size; omega)]
    exact HR3.out
  have HF : Hid (CopA w ⟨nd, id, nm, po, tg, mk, ch⟩ (.returned (.agg #[.string nd, .string id, .string nm, .int .i64 po, .slice va tl vc, .int .u64 mk, .int .u64 ch])) (putC (w3.setCell ⟨w.heap.size, 4, none⟩ (.slice va tl vc)) (w.heap.size + 1) 0 [.string nd, .string id, .string nm, .int .i64 po, .slice va tl vc, .int .u64 mk, .int .u64 ch])) := HFin.out _ _ (row_putC HRp.out (by decide) (row_set1 HX3.out (by decide) HO3.out _) [.string nd, .string id, .string nm, .int .i64 po, .slice va tl vc, .int .u64 mk, .int .u64 ch]) (putC_below [.string nd, .string id, .string nm, .int .i64 po, .slice va tl vc, .int .u64 mk, .int .u64 ch] (w3.setCell ⟨w.heap.size, 4, none⟩ (.slice va tl vc)) 0 (HB3.out.setCell (p := ⟨w.heap.size, 4, none⟩) (Nat.le_refl _) _) (by omega))
  have HLd : Hid ((loadVar 51 ⟨w.heap.size + 1, 0, none⟩).run Tryz.prog (putC (w3.setCell ⟨w.heap.size, 4, none⟩ (.slice va tl vc)) (w.heap.size + 1) 0 [.string nd, .string id, .string nm, .int .i64 po, .slice va tl vc, .int .u64 mk, .int .u64 ch]) = .ok (.agg #[.string nd, .string id, .string nm, .int .i64 po, .slice va tl vc, .int .u64 mk, .int .u64 ch]) (putC (w3.setCell ⟨w.heap.size, 4, none⟩ (.slice va tl vc)) (w.heap.size + 1) 0 [.string nd, .string id, .string nm, .int .i64 po, .slice va tl vc, .int .u64 mk, .int .u64 ch])) := load_svc (putC_all (l := [.string nd, .string id, .string nm, .int .i64 po, .slice va tl vc, .int .u64 mk, .int .u64 ch]) HRp.out rfl) rfl
  exact ret_box1 (g := w.heap.size + 1) (w := putC (w3.setCell ⟨w.heap.size, 4, none⟩ (.slice va tl vc)) (w.heap.size + 1) 0 [.string nd, .string id, .string nm, .int .i64 po, .slice va tl vc, .int .u64 mk, .int .u64 ch]) rfl rfl rfl HLd.out HF.out

set_option maxRecDepth 100000 in
set_option maxHeartbeats 4000000 in
theorem sameService_calls (s : Sp) (ta tb : Option Addr) (tc td : Nat) (w : World) (hl : s.tags.length ≤ 8796093022208) (ha : CellsAt w ta (s.tags.map Value.string)) (hb : CellsAt w tb (s.tags.map Value.string)) :
    Calls Tryz.prog 38 #[.agg (s.v (.slice ta s.tags.length tc)), .agg (s.v (.slice tb s.tags.length td))] w fun e w' => e = .returned (.bool true) ∧ Below w.heap.size w w' := by
  have HT : Hid (∀ w', Below w.heap.size w w' → Calls Tryz.prog 58 #[.slice ta s.tags.length tc, .slice tb s.tags.length td] w' fun e w'' => e = .returned (.bool true) ∧ Below w'.heap.size w' w'') := fun w' h => sameTexts_calls ta tb tc td s.tags w' hl (ha.below h) (hb.below h)
  clear ha hb
  obtain ⟨nd, id, nm, po, tg, mk, ch⟩ := s
  simp only [Sp.v] at *
  generalize tg.length = tl at *
  have q1 : (nd.toList == nd.toList) = true := beq_self_eq_true _
  have q2 : (id.toList == id.toList) = true := beq_self_eq_true _
  have q3 : (nm.toList == nm.toList) = true := beq_self_eq_true _
  have q4 : (po == po) = true := beq_self_eq_true _
  have q5 : (mk == mk) = true := beq_self_eq_true _
  have q6 : (ch == ch) = true := beq_self_eq_true _
  obtain ⟨w2, Hw2⟩ : ∃ w2, Hid (w2 = (w.alloc (.cells #[.string nd, .string id, .string nm, .int .i64 po, .slice ta tl tc, .int .u64 mk, .int .u64 ch] 51)).alloc (.cells #[.string nd, .string id, .string nm, .int .i64 po, .slice tb tl td, .int .u64 mk, .int .u64 ch] 51)) := ⟨_, rfl⟩
  have hz : (w.alloc (.cells #[.string nd, .string id, .string nm, .int .i64 po, .slice ta tl tc, .int .u64 mk, .int .u64 ch] 51)).heap.size = w.heap.size + 1 := size_new _ _
  have HX2 : Hid (Blk w2 w.heap.size #[.string nd, .string id, .string nm, .int .i64 po, .slice ta tl tc, .int .u64 mk, .int .u64 ch] 51) := by rw [Hw2.out]; exact (Blk.new _ _ _).alloc _
  have HY2 : Hid (Blk w2 (w.heap.size + 1) #[.string nd, .string id, .string nm, .int .i64 po, .slice tb tl td, .int .u64 mk, .int .u64 ch] 51) := by rw [Hw2.out, ← hz]; exact Blk.new _ _ _
  have HB2 : Hid (Below w.heap.size w w2) := by rw [Hw2.out]; exact (below_new w _).alloc (by rw [hz]; omega) _
  clear hz
  go_enter Tryz.func38, Tryz.ntmps38
  go_wp2_with fail
  rw [← Hw2.out]
  clear Hw2
  refine (HT.out w2 HB2.out).mono ?_
  rintro e w3 ⟨rfl, hb3⟩
  have b5 := (HX2.out.below hb3).cell 5 rfl
  have b6 := (HX2.out.below hb3).cell 6 rfl
  have d5 := (HY2.out.below hb3).cell 5 rfl
  have d6 := (HY2.out.below hb3).cell 6 rfl
  have HB3 : Hid (Below w.heap.size w w3) := HB2.out.trans (hb3.mono HB2.out.size)
  clear hb3 HX2 HY2
  go_wp2
  go_ret
  exact ⟨rfl, HB3.out⟩
end Go.Proofs.YtmkohdepgfahnaaGreatDoor
