/- Layer 14 (timers): the steps of TimersRuns. -/
import Derived.Test.YtedhjdkhfndinaaTiLaw
namespace Go.Proofs.Ytedhjdkhfndinaa
open Go.RowKit Go.MapKept
set_option linter.unusedVariables false
variable {W : World} {S S' : Nat → Prop} {mB : Nat} {mo now now' : Int} {vi va vi' va' told want : Value} {D D' : List Tm} {TW : List Tw} {wr w' : World} {wb mb k : Nat} {v : Value} {L : List Tm} {sets : Int}

theorem RunI.below (h : RunI W mo wb mb mB k told want S v vi va L D now sets TW wr) (hb : Below wr.heap.size wr w') : RunI W mo wb mb mB k told want S v vi va L D now sets TW w' :=
  ⟨h.wh.below hb, h.law.below hb, h.bl.trans (hb.mono h.bl.size), h.nS, h.rel, h.rise, h.turn, h.s0, h.n0, h.len, h.twl, h.twn⟩
/-- The document's step, laid into m. -/
theorem RunI.doc {w5 : World} {nb : Obj} (h : RunI W mo wb mb mB k told want S v vi va L D now sets TW wr) (hb : Below wr.heap.size wr w5) (hI : RowI w5 vi' (D'.map (·.id))) (hA : RowU w5 va' (D'.map (·.tm)))
    (sI : ∀ q, vi'.ownBlock = some q → vi.ownBlock = some q ∨ wr.heap.size ≤ q) (sA : ∀ q, va'.ownBlock = some q → va.ownBlock = some q ∨ wr.heap.size ≤ q) (now' : Int) :
    WhAt (st4 (w5.alloc nb) mB (.int .u64 now') (.int .i64 mo) vi' va') S wb mb mo now sets v L ∧ LawP W S mB mo now' vi' va' told want D' TW (st4 (w5.alloc nb) mB (.int .u64 now') (.int .i64 mo) vi' va') ∧ Below W.heap.size W (st4 (w5.alloc nb) mB (.int .u64 now') (.int .i64 mo) vi' va') := by
  have hba : Below w5.heap.size w5 (w5.alloc nb) := (Below.refl _ _).alloc (Nat.le_refl _) _
  have h5 := (h.below hb).below hba
  have nI : ∀ {x x' : Value}, (∀ q, x.ownBlock = some q → ¬ S q) → (∀ q, x'.ownBlock = some q → x.ownBlock = some q ∨ wr.heap.size ≤ q) → ∀ q, x'.ownBlock = some q → ¬ S q := fun hx hs q hq hS => by
    rcases hs q hq with h1 | h1
    · exact hx q h1 hS
    · have := h.wh.sb q hS; omega
  refine ⟨h5.wh.frm (st4_frm _ _ _ _ _ _) (fun q hq e => h.law.mS (by rw [← e]; exact hq)), h5.law.store (hI.below hba) (hA.below hba) (nI h.law.sI sI) (nI h.law.sA sA), st4_below h5.bl h.law.mW _ _ _ _⟩
theorem Rising.snoc {x : Tm} (h : Rising D) (hx : ∀ y ∈ D, y.turn < x.turn) : Rising (D ++ [x]) := by
  unfold Rising
  rw [List.pairwise_append]
  exact ⟨h, by simp, fun a ha b hb => by rw [List.mem_singleton.1 hb]; exact hx a ha⟩
/-- told and want grow by one each. -/
theorem LawP.push {w9 w10 w11 : World} {told' want' r q' : Value} {ids : List Int} (h : LawP W S mB mo now vi va told want D TW w9) (hSb : ∀ q, S q → q < w9.heap.size) (hW : W.heap.size ≤ w9.heap.size)
    (ho10 : w10.ownsRow W.heap.size 27 1 told' (TW.map (·.1) ++ [r]).length (TW.map (·.1) ++ [r])) (hg10 : Grew w9 w10 told told')
    (ho11 : w11.ownsRow W.heap.size 27 1 want' (TW.map (·.2.1) ++ [q']).length (TW.map (·.2.1) ++ [q'])) (hg11 : Grew w10 w11 want want')
    (hr : RowI w9 r ids) (hq : RowI w9 q' ids) (sr : ∀ q, r.ownBlock = some q → ¬ S q) (sq : ∀ q, q'.ownBlock = some q → ¬ S q) :
    LawP W S mB mo now vi va told' want' D (TW ++ [(r, q', ids)]) w11 ∧ Frm (fun k => told.ownBlock = some k ∨ want.ownBlock = some k) w9 w11 := by
  have k1 : ∀ (p : Nat) (cs : Array Value) (t : TypeId), 27 ≠ t → w9.heap[p]? = some (.cells cs t) → w11.heap[p]? = some (.cells cs t) := fun p cs t hne hp => by
    have h1 : w10.heap[p]? = some (.cells cs t) := (hg10.grown.block p (lt_of_heapT hp) (fun e => ne_ty (ownsRow_ty h.T e.symm) hp hne rfl)).trans hp
    have hN10 : w10.ownsRow W.heap.size 27 1 want (TW.map (·.2.1)).length (TW.map (·.2.1)) := ownsRow_keep h.N (fun q hq => hg10.grown.block q (World.ownsRow.lt h.N q hq).2 (fun e => h.sep q e.symm hq))
    exact (hg11.grown.block p (lt_of_heapT h1) (fun e => ne_ty (ownsRow_ty hN10 e.symm) h1 hne rfl)).trans h1
  have key : ∀ {B : Nat} {e : TypeId} {x : Value} {n : Nat} {l : List Value}, e ≠ 27 → w9.ownsRow B e 1 x n l → w11.ownsRow B e 1 x n l := fun hne ho => ownsRow_keep ho (fun q hq => by
    obtain ⟨cs, hcs⟩ := ownsRow_ty ho hq
    rw [hcs]; exact k1 q cs _ hne.symm hcs)
  have sepN : ∀ q, told'.ownBlock = some q → want.ownBlock ≠ some q := fun q hq e => by
    rcases hg10.place q hq with h1 | h1
    · exact h.sep q h1 e
    · have := (World.ownsRow.lt h.N q e).2; omega
  have hT11 : w11.ownsRow W.heap.size 27 1 told' (TW.map (·.1) ++ [r]).length (TW.map (·.1) ++ [r]) := ownsRow_keep ho10 (fun q hq => hg11.grown.block q (World.ownsRow.lt ho10 q hq).2 (fun e => sepN q hq e.symm))
  have nT : ∀ q, told'.ownBlock = some q → ¬ S q := fun q hq hS => by
    rcases hg10.place q hq with h1 | h1
    · exact h.sT q h1 hS
    · have := hSb q hS; omega
  have nN : ∀ q, want'.ownBlock = some q → ¬ S q := fun q hq hS => by
    rcases hg11.place q hq with h1 | h1
    · exact h.sN q h1 hS
    · have := hSb q hS; have := hg10.grown.size; omega
  refine ⟨⟨k1 _ _ _ (by decide) h.blk, key (by decide) h.I, key (by decide) h.A, by simpa using hT11, by simpa using ho11, fun p hp => ?_, h.mW, h.mS, h.sI, h.sA, nT, nN, fun p hp => ?_, fun q hq e => ?_⟩, ?_⟩
  · rcases List.mem_append.1 hp with hp | hp
    · exact ⟨key (by decide) (h.tw p hp).1, key (by decide) (h.tw p hp).2⟩
    · rw [List.mem_singleton.1 hp]; exact ⟨key (by decide) hr, key (by decide) hq⟩
  · rcases List.mem_append.1 hp with hp | hp
    · exact h.tS p hp
    · rw [List.mem_singleton.1 hp]; exact ⟨sr, sq⟩
  · rcases hg11.place q e with h1 | h1
    · exact sepN q hq h1
    · have := (World.ownsRow.lt ho10 q hq).2; omega
  · exact (hg10.frm.weaken (fun k _ e => .inl e)).trans (hg11.frm.weaken (fun k _ e => .inr e))
theorem infoSl : (Try.prog.info? 27).map (fun i => (i.zero, i.size, i.bytes)) = some (some (.slice none 0 0), 1, 24) := by kernel_rfl
theorem RunI.fires {to : Int} {fsL R fs D5 : List Tm} (h : RunI W mo wb mb mB k told want S v vi va L D now sets TW wr) (h1 : Fires to L fsL R) (h2 : Fires to D fs D5) : fsL.map (·.id) = fs.map (·.id) ∧ (R.map z0).Perm D5 ∧ fsL.length = fs.length := by
  obtain ⟨u1, u2⟩ := h1.map0.uniq h2 h.rel (h.rise.apart.perm h.rel)
  refine ⟨?_, u2, ?_⟩
  · have := congrArg (List.map Tm.id) u1
    rw [List.map_map] at this
    exact this
  · have := congrArg List.length u1
    simpa using this
theorem idV_row (fs : List Tm) : fs.map idV = (fs.map (·.id)).map (Value.int .i64) := by rw [List.map_map]; rfl
end Go.Proofs.Ytedhjdkhfndinaa
