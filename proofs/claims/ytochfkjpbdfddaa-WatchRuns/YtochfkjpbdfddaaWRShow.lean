/- What WatchRuns asks of one set. -/
import Derived.Test.YtochfkjpbdfddaaWRAll
namespace Go.Proofs.Ytochfkjpbdfddaa
open Go.RowKit
set_option linter.unusedVariables false

section
variable {W wr w' : World} {x3 x4 x5 x6 : Value} {wl : List (Nat × Nat)} {fs : List Bool} {sl : List Sx} {k : Nat}

/-- The set at place b, and the document's beside it: First and Len of both. -/
theorem RAll.showAt {a5 a6 : Option Addr} {c5 c6 b : Nat} (h : RAll W wr x3 x4 (.slice a5 sl.length c5) (.slice a6 sl.length c6) wl fs sl k) (hb : b < sl.length) (hk : k ≤ 5864062014805) :
    ∃ (g5 g6 sb hn ch : Nat) (mst pos : Int) (ah : Option Addr), a5 = some ⟨g5, 0, none⟩ ∧ a6 = some ⟨g6, 0, none⟩ ∧ wr.cell? ⟨g5, b, none⟩ = some (.pointer (some ⟨sb, 0, none⟩)) ∧ wr.cell? ⟨g6, b * 2, none⟩ = some (.int .i64 mst) ∧ wr.cell? ⟨g6, b * 2 + 1, none⟩ = some (.slice ah hn ch) ∧
      (∀ w', Below wr.heap.size wr w' → Calls Try.prog 11 #[.pointer (some ⟨sb, 0, none⟩)] w' fun e w'' => e = .returned (.int .i64 pos) ∧ Below w'.heap.size w' w'') ∧
      (∀ w', Below wr.heap.size wr w' → Calls Try.prog 10 #[.pointer (some ⟨sb, 0, none⟩)] w' fun e w'' => e = .returned (.int .i64 (hn : Int)) ∧ Below w'.heap.size w' w'') ∧
      (∀ w', Below wr.heap.size wr w' → Calls Try.prog 14 #[.agg #[.int .i64 mst, .slice ah hn ch], x4] w' fun e w'' => e = .returned (.int .i64 pos) ∧ Below w'.heap.size w' w'') := by
  obtain ⟨g5, rfl, hc5⟩ := h.ss.at b (by rw [ptrs_length, List.length_map]; exact hb)
  have hms := h.ms
  obtain ⟨g6, rfl⟩ : ∃ g6, a6 = some ⟨g6, 0, none⟩ := by
    rcases hms.2 with ⟨he, h0⟩ | ⟨g, cap', cur, he, _⟩
    · omega
    · simp only [Value.slice.injEq] at he; exact ⟨g, he.1⟩
  have hm := mcs_at sl b hb
  have hsk := h.core.sat sl[b] (List.getElem_mem hb)
  obtain ⟨ah, ch, hsh⟩ := hsk.held.shape
  rw [nums_length] at hsh
  have hlk := hsk.len
  have c0 : wr.cell? ⟨g6, b * 2, none⟩ = some (.int .i64 sl[b].most) := by rw [World.ownsRow.cellAt hms (b * 2) (by omega)]; exact hm.1
  have c1 : wr.cell? ⟨g6, b * 2 + 1, none⟩ = some (.slice ah sl[b].hd.length ch) := by rw [World.ownsRow.cellAt hms (b * 2 + 1) (by omega), ← hsh]; exact hm.2
  refine ⟨g5, g6, sl[b].sb, sl[b].hd.length, ch, sl[b].most, posOf (fun i => fs.getD i false) sl[b].hd, ah, rfl, rfl, ?_, c0, c1, ?_, ?_, ?_⟩
  · rw [hc5]; simp [ptrs, ptr]
  · intro w' hw'
    have h' := h.later hw'
    have hs' := h'.core.sat sl[b] (List.getElem_mem hb)
    refine (setFirst_calls W.heap.size sl[b].sb sl[b].most sl[b].v (bl wl sl[b].hd) (fzOf wl fs) w' hs'.set (by rw [bl_length]; omega) (h'.core.heldW (List.getElem_mem hb))).mono ?_
    rintro e w'' ⟨rfl, rfl⟩
    exact ⟨by rw [h'.core.pos (List.getElem_mem hb)], Below.refl _ _⟩
  · intro w' hw'
    have hs' := (h.later hw').core.sat sl[b] (List.getElem_mem hb)
    refine (setLen_calls W.heap.size sl[b].sb sl[b].most sl[b].v (bl wl sl[b].hd) w' hs'.set).mono ?_
    rintro e w'' ⟨rfl, rfl⟩
    exact ⟨by rw [bl_length], Below.refl _ _⟩
  · intro w' hw'
    have h' := h.later hw'
    have hs' := h'.core.sat sl[b] (List.getElem_mem hb)
    have := refFirst_calls W.heap.size sl[b].most sl[b].hv x4 sl[b].hd fs w' (by omega) hs'.held h'.fz (fun i hi => by rw [h'.core.flen]; exact hs'.inw i hi)
    rw [hsh] at this
    exact this
end
end Go.Proofs.Ytochfkjpbdfddaa
