/- Layer 14 (timers): Advance's step in TimersRuns; what was told. -/
import Derived.Test.YtedhjdkhfndinaaTiLaw2
namespace Go.Proofs.Ytedhjdkhfndinaa
open Go.RowKit Go.MapKept
set_option linter.unusedVariables false
variable {W : World} {S S' : Nat → Prop} {mB : Nat} {mo now now' : Int} {vi va vi' va' told want : Value} {D D' : List Tm} {TW : List Tw} {wr w' : World} {wb mb k : Nat} {v : Value} {L : List Tm} {sets : Int}

theorem RowI.frm {x : Value} {l : List Int} (h : RowI wr x l) (hf : Frm S wr w') (hn : ∀ q, x.ownBlock = some q → ¬ S q) : RowI w' x l := ownsRow_keep h (fun q hq => hf.block q (World.ownsRow.lt h q hq).2 (hn q hq))
theorem RowU.frm {x : Value} {l : List Int} (h : RowU wr x l) (hf : Frm S wr w') (hn : ∀ q, x.ownBlock = some q → ¬ S q) : RowU w' x l := ownsRow_keep h (fun q hq => hf.block q (World.ownsRow.lt h q hq).2 (hn q hq))
theorem RowI.iat {ao : Option Addr} {n c : Nat} {l : List Int} (h : RowI wr (.slice ao n c) l) : IAt wr ao l ∧ n = l.length := by
  obtain ⟨ao', c', e, _, _, hc⟩ := h.shape
  simp only [Value.slice.injEq] at e
  obtain ⟨rfl, rfl, rfl⟩ := e
  exact ⟨fun k hk => by
    obtain ⟨g, e, hcc⟩ := hc k hk
    exact ⟨g, 0, e, by rw [Nat.zero_add]; exact hcc⟩, rfl⟩
/-- Advance's step: the document's answer stands, then the program's; then m = next. -/
theorem RunI.adv {w5 w8 : World} {nbo : Obj} {to now5 : Int} {v8 : Value} {R : List Tm} (h : RunI W mo wb mb mB k told want S v vi va L D now sets TW wr) (hb : Below wr.heap.size wr w5) (hI : RowI w5 vi' (D'.map (·.id))) (hA : RowU w5 va' (D'.map (·.tm)))
    (sI : ∀ q, vi'.ownBlock = some q → vi.ownBlock = some q ∨ wr.heap.size ≤ q) (sA : ∀ q, va'.ownBlock = some q → va.ownBlock = some q ∨ wr.heap.size ≤ q) (hw8 : WhAt w8 S wb mb mo to sets v8 R) (hf : Frm S (w5.alloc nbo) w8) :
    WhAt (st4 w8 mB (.int .u64 now5) (.int .i64 mo) vi' va') S wb mb mo to sets v8 R ∧ LawP W S mB mo now5 vi' va' told want D' TW (st4 w8 mB (.int .u64 now5) (.int .i64 mo) vi' va') ∧ Below W.heap.size W (st4 w8 mB (.int .u64 now5) (.int .i64 mo) vi' va') ∧ w8.heap[mB]? = some (.cells #[.int .u64 now, .int .i64 mo, vi, va] 30) := by
  have hba : Below w5.heap.size w5 (w5.alloc nbo) := (Below.refl _ _).alloc (Nat.le_refl _) _
  have h5 := (h.below hb).below hba
  have nI : ∀ {x x' : Value}, (∀ q, x.ownBlock = some q → ¬ S q) → (∀ q, x'.ownBlock = some q → x.ownBlock = some q ∨ wr.heap.size ≤ q) → ∀ q, x'.ownBlock = some q → ¬ S q := fun hx hs q hq hS => by
    rcases hs q hq with h1 | h1
    · exact hx q h1 hS
    · have := h.wh.sb q hS; omega
  have hl8 := h5.law.frm hf (S' := S) (fun q hq => .inl hq)
  refine ⟨hw8.frm (st4_frm _ _ _ _ _ _) (fun q hq e => h.law.mS (by rw [← e]; exact hq)), hl8.store ((hI.below hba).frm hf (nI h.law.sI sI)) ((hA.below hba).frm hf (nI h.law.sA sA)) (nI h.law.sI sI) (nI h.law.sA sA), st4_below (h5.bl.trans (hf.toBelow h5.bl.size h.nS)) h.law.mW _ _ _ _, hl8.blk⟩
theorem LawP.at (h : LawP W S mB mo now vi va told want D TW wr) (i : Nat) (hi : i < TW.length) : ∃ g c g' c', told = .slice (some ⟨g, 0, none⟩) TW.length c ∧ want = .slice (some ⟨g', 0, none⟩) TW.length c' ∧ wr.cell? ⟨g, i, none⟩ = some TW[i].1 ∧ wr.cell? ⟨g', i, none⟩ = some TW[i].2.1 := by
  obtain ⟨g, c, e1, h1⟩ : ∃ g c, told = .slice (some ⟨g, 0, none⟩) TW.length c ∧ wr.cell? ⟨g, i, none⟩ = some TW[i].1 := by
    rcases h.T.2 with ⟨e, h0⟩ | ⟨g, c, cur, e, _⟩
    · rw [List.length_map] at h0; omega
    · rw [List.length_map] at e
      refine ⟨g, c, e, ?_⟩
      have hT := h.T
      rw [e] at hT
      have hl : (TW.map (·.1)).length = TW.length := List.length_map ..
      rw [hl] at hT
      rw [World.ownsRow.cellAt hT i (by omega)]
      simp [hi]
  obtain ⟨g', c', e2, h2⟩ : ∃ g c, want = .slice (some ⟨g, 0, none⟩) TW.length c ∧ wr.cell? ⟨g, i, none⟩ = some TW[i].2.1 := by
    rcases h.N.2 with ⟨e, h0⟩ | ⟨g, c, cur, e, _⟩
    · rw [List.length_map] at h0; omega
    · rw [List.length_map] at e
      refine ⟨g, c, e, ?_⟩
      have hT := h.N
      rw [e] at hT
      have hl : (TW.map (·.2.1)).length = TW.length := List.length_map ..
      rw [hl] at hT
      rw [World.ownsRow.cellAt hT i (by omega)]
      simp [hi]
  exact ⟨g, c, g', c', e1, e2, h1, h2⟩
end Go.Proofs.Ytedhjdkhfndinaa
