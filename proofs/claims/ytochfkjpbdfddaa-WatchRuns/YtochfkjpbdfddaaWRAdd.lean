/- What WatchRuns asks of one set: Add. -/
import Derived.Test.YtochfkjpbdfddaaWRShow
namespace Go.Proofs.Ytochfkjpbdfddaa
open Go.RowKit
set_option linter.unusedVariables false

def numA (av : Option Nat) : Int := match av with | none => -1 | some a => (a : Int)
def ptrA (wl : List (Nat × Nat)) (av : Option Nat) : Value := match av with | none => .pointer none | some a => .pointer (some ⟨(wl.getD a (0, 0)).1, 0, none⟩)

section
variable {W wr w' : World} {x3 x4 x5 x6 : Value} {wl : List (Nat × Nat)} {fs : List Bool} {sl : List Sx} {k : Nat}

theorem RAll.addAt {a5 a6 : Option Addr} {c5 c6 b : Nat} (av : Option Nat) (h : RAll W wr x3 x4 (.slice a5 sl.length c5) (.slice a6 sl.length c6) wl fs sl k) (hb : b < sl.length) (hk : k + 1 ≤ 5864062014805) (hav : ∀ a, av = some a → a < wl.length) :
    ∃ (g5 g6 sb hn ch : Nat) (mst : Int) (ah : Option Addr) (res : Bool), a5 = some ⟨g5, 0, none⟩ ∧ a6 = some ⟨g6, 0, none⟩ ∧ wr.cell? ⟨g5, b, none⟩ = some (.pointer (some ⟨sb, 0, none⟩)) ∧ wr.cell? ⟨g6, b * 2, none⟩ = some (.int .i64 mst) ∧ wr.cell? ⟨g6, b * 2 + 1, none⟩ = some (.slice ah hn ch) ∧
      Calls Try.prog 12 #[.agg #[.int .i64 mst, .slice ah hn ch], .int .i64 (numA av)] wr fun e w2 => ∃ (ah' : Option Addr) (hn' ch' : Nat), e = .returned (.tuple #[.agg #[.int .i64 mst, .slice ah' hn' ch'], .bool res]) ∧ Below wr.heap.size wr w2 ∧
        ∀ w3, Below w2.heap.size w2 w3 → Calls Try.prog 13 #[.pointer (some ⟨sb, 0, none⟩), ptrA wl av] w3 fun e w4 => e = .returned (.bool res) ∧ (∀ (j : Nat) (cs : Array Value), w3.heap[j]? = some (Obj.cells cs 38) → w4.heap[j]? = some (Obj.cells cs 38)) ∧
          ∃ sl' : List Sx, sl'.length = sl.length ∧ RAll W ((w4.setCell ⟨g6, b * 2, none⟩ (.int .i64 mst)).setCell ⟨g6, b * 2 + 1, none⟩ (.slice ah' hn' ch')) x3 x4 (.slice (some ⟨g5, 0, none⟩) sl.length c5) (.slice (some ⟨g6, 0, none⟩) sl.length c6) wl fs sl' (k + 1) := by
  obtain ⟨g5, rfl, hc5⟩ := h.ss.at b (by rw [ptrs_length, List.length_map]; exact hb)
  have hms := h.ms
  obtain ⟨g6, rfl⟩ : ∃ g6, a6 = some ⟨g6, 0, none⟩ := by
    rcases hms.2 with ⟨he, h0⟩ | ⟨g, cap', cur, he, _⟩
    · omega
    · simp only [Value.slice.injEq] at he; exact ⟨g, he.1⟩
  have hm := mcs_at sl b hb
  have hsk := h.core.sat sl[b] (List.getElem_mem hb)
  obtain ⟨ah, ch, hsh⟩ := hsk.held.shape
  rw [nums_length] at hsh
  have hlk := hsk.len
  have c0 : wr.cell? ⟨g6, b * 2, none⟩ = some (.int .i64 sl[b].most) := by rw [World.ownsRow.cellAt hms (b * 2) (by omega)]; exact hm.1
  have c1 : wr.cell? ⟨g6, b * 2 + 1, none⟩ = some (.slice ah sl[b].hd.length ch) := by rw [World.ownsRow.cellAt hms (b * 2 + 1) (by omega), ← hsh]; exact hm.2
  have cc5 : wr.cell? ⟨g5, b, none⟩ = some (.pointer (some ⟨sl[b].sb, 0, none⟩)) := by rw [hc5]; simp [ptrs, ptr]
  have hheld : OwnV wr W.heap.size 3 (.slice ah sl[b].hd.length ch) (nums sl[b].hd) := by rw [← hsh]; exact hsk.held
  -- where nothing changes
  have same : ∀ {w2 w3 w4 : World}, Below wr.heap.size wr w2 → Below w2.heap.size w2 w3 → Below w3.heap.size w3 w4 →
      (∀ (j : Nat) (cs : Array Value), w3.heap[j]? = some (Obj.cells cs 38) → w4.heap[j]? = some (Obj.cells cs 38)) ∧
      ∃ sl' : List Sx, sl'.length = sl.length ∧ RAll W ((w4.setCell ⟨g6, b * 2, none⟩ (.int .i64 sl[b].most)).setCell ⟨g6, b * 2 + 1, none⟩ (.slice ah sl[b].hd.length ch)) x3 x4 (.slice (some ⟨g5, 0, none⟩) sl.length c5) (.slice (some ⟨g6, 0, none⟩) sl.length c6) wl fs sl' (k + 1) := by
    intro w2 w3 w4 h2 h3 h4
    have h' := (h.later h2).later h3
    refine ⟨fun j cs hj => (h4.block j (lt_of_heap hj)).trans hj, sl.set b sl[b], by simp, ?_⟩
    have hs4 := ((h'.later h4).core.sat sl[b] (List.getElem_mem hb)).more (Nat.le_succ k)
    have := h'.setStore rfl hb hs4 rfl ((Touched.ofBelow h4 []).weaken (by simp)) (fun q hq => .inl hq)
    rw [hsh] at this
    exact this
  cases av with
  | none =>
    refine ⟨g5, g6, sl[b].sb, sl[b].hd.length, ch, sl[b].most, ah, false, rfl, rfl, cc5, c0, c1, ?_⟩
    refine (refAdd_neg sl[b].most (-1) ah sl[b].hd.length ch wr (by omega)).mono ?_
    rintro e w2 ⟨rfl, hb2⟩
    refine ⟨ah, sl[b].hd.length, ch, rfl, hb2, fun w3 hb3 => (setAdd_nil sl[b].sb w3).mono ?_⟩
    rintro e w4 ⟨rfl, rfl⟩
    exact ⟨rfl, same hb2 hb3 (Below.refl _ _)⟩
  | some a =>
    have ha := hav a rfl
    have hany := h.core.anyIn (List.getElem_mem hb) ha
    have heldAt : ∀ {w3 : World}, RAll W w3 x3 x4 (.slice (some ⟨g5, 0, none⟩) sl.length c5) (.slice (some ⟨g6, 0, none⟩) sl.length c6) wl fs sl k → (∀ x ∈ bl wl sl[b].hd, ∃ c f, WAt w3 x c f) ∧ ∃ c f, WAt w3 (wl.getD a (0, 0)).1 c f := fun h3 =>
      ⟨fun x hx => let ⟨c, hc⟩ := h3.core.heldW (List.getElem_mem hb) x hx; ⟨c, _, hc⟩, ⟨_, _, (h3.core.wat a ha).1⟩⟩
    by_cases hin : a ∈ sl[b].hd
    · refine ⟨g5, g6, sl[b].sb, sl[b].hd.length, ch, sl[b].most, ah, true, rfl, rfl, cc5, c0, c1, ?_⟩
      refine (refAdd_held W.heap.size sl[b].most ah ch a sl[b].hd wr (by omega) hheld hin).mono ?_
      rintro e w2 ⟨rfl, hb2⟩
      refine ⟨ah, sl[b].hd.length, ch, rfl, hb2, fun w3 hb3 => ?_⟩
      have h3 := (h.later hb2).later hb3
      refine (setAdd_held W.heap.size sl[b].sb (wl.getD a (0, 0)).1 sl[b].most sl[b].v (bl wl sl[b].hd) w3 (h3.core.sat _ (List.getElem_mem hb)).set (by rw [bl_length]; omega) (heldAt h3).1 (heldAt h3).2 (by rw [hany]; simp [hin])).mono ?_
      rintro e w4 ⟨rfl, rfl⟩
      exact ⟨rfl, same hb2 hb3 (Below.refl _ _)⟩
    · by_cases hfull : (sl[b].hd.length : Int) = sl[b].most
      · refine ⟨g5, g6, sl[b].sb, sl[b].hd.length, ch, sl[b].most, ah, false, rfl, rfl, cc5, c0, c1, ?_⟩
        refine (refAdd_full W.heap.size sl[b].most ah ch a sl[b].hd wr (by omega) hheld hin (by omega)).mono ?_
        rintro e w2 ⟨rfl, hb2⟩
        refine ⟨ah, sl[b].hd.length, ch, rfl, hb2, fun w3 hb3 => ?_⟩
        have h3 := (h.later hb2).later hb3
        refine (setAdd_full W.heap.size sl[b].sb (wl.getD a (0, 0)).1 sl[b].most sl[b].v (bl wl sl[b].hd) w3 (h3.core.sat _ (List.getElem_mem hb)).set (by rw [bl_length]; omega) (heldAt h3).1 (heldAt h3).2 (by rw [hany]; simp [hin]) (by rw [bl_length]; exact hfull)).mono ?_
        rintro e w4 ⟨rfl, hb4⟩
        exact ⟨rfl, same hb2 hb3 hb4⟩
      · refine ⟨g5, g6, sl[b].sb, sl[b].hd.length, ch, sl[b].most, ah, true, rfl, rfl, cc5, c0, c1, ?_⟩
        have hfit := hsk.fit
        refine (refAdd_room W.heap.size sl[b].most ah ch a sl[b].hd wr (by omega) hheld hin (by omega) (by omega)).mono ?_
        rintro e w2 ⟨hv, rfl, hho, hb2⟩
        obtain ⟨ah', ch', hsh'⟩ := hho.shape
        subst hsh'
        refine ⟨ah', _, ch', rfl, hb2, fun w3 hb3 => ?_⟩
        have h3 := (h.later hb2).later hb3
        have hs3 := h3.core.sat _ (List.getElem_mem hb)
        refine (setAdd_room W.heap.size sl[b].sb (wl.getD a (0, 0)).1 sl[b].most sl[b].v (bl wl sl[b].hd) w3 hs3.set (by rw [bl_length]; omega) h3.core.below.size (heldAt h3).1 (heldAt h3).2 (by rw [hany]; simp [hin]) (by rw [bl_length]; exact hfull)).mono ?_
        rintro e w4 ⟨rfl, v', hs4, ht4, hp4⟩
        have hne : ∀ {e : TypeId} {j : Nat}, e ≠ 61 → e ≠ 31 → (∃ cs, w3.heap[j]? = some (Obj.cells cs e)) → j ∉ sl[b].sb :: sl[b].v.ownBlock.toList := fun h1 h2 hj => by
          simp only [List.mem_cons, Option.mem_toList, not_or]
          refine ⟨own_ne hj hs3.set.blk h1, fun e => ?_⟩
          obtain ⟨cs, hc⟩ := hs3.set.own.typed _ e
          exact own_ne hj hc h2 rfl
        refine ⟨rfl, fun j cs hj => (ht4.block j (lt_of_heap hj) (hne (by decide) (by decide) ⟨cs, hj⟩)).trans hj, sl.set b ⟨sl[b].sb, sl[b].most, v', sl[b].hd ++ [a], .slice ah' (nums (sl[b].hd ++ [a])).length ch'⟩, by simp, ?_⟩
        have hho3 : OwnV w3 wr.heap.size 3 (.slice ah' (nums (sl[b].hd ++ [a])).length ch') (nums (sl[b].hd ++ [a])) := hho.touched (Touched.ofBelow hb3 []) (by simp)
        have hho4 : OwnV w4 W.heap.size 3 (.slice ah' (nums (sl[b].hd ++ [a])).length ch') (nums (sl[b].hd ++ [a])) := (hho3.touched ht4 fun j hj => hne (by decide) (by decide) (hho3.typed j hj)).mono h.core.below.size
        refine h3.setStore (s' := ⟨sl[b].sb, sl[b].most, v', sl[b].hd ++ [a], .slice ah' (nums (sl[b].hd ++ [a])).length ch'⟩) rfl hb ⟨?_, hs3.lsb, hho4, ?_, ?_, ?_⟩ rfl ht4 hp4
        · rw [bl_append]; exact hs4
        · intro i hi
          rcases List.mem_append.1 hi with hi | hi
          · exact hs3.inw i hi
          · simp at hi; subst hi; exact ha
        · simp; omega
        · simp; omega
end
end Go.Proofs.Ytochfkjpbdfddaa
