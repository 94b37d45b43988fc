/- Layer 14 (timers): what TimersRuns holds between two steps. -/
import Derived.Test.YtedhjdkhfndinaaTiRAdv
namespace Go.Proofs.Ytedhjdkhfndinaa
open Go.RowKit Go.MapKept
set_option linter.unusedVariables false

abbrev Tw := Value × Value × List Int
/-- The law's own memory: the document's wheel in its variable at mB, what was told and wanted; none of it is the program's wheel's (S). -/
structure LawP (W : World) (S : Nat → Prop) (mB : Nat) (mo now : Int) (vi va told want : Value) (D : List Tm) (TW : List Tw) (wr : World) : Prop where
  blk : wr.heap[mB]? = some (.cells #[.int .u64 now, .int .i64 mo, vi, va] 30)
  I : RowI wr vi (D.map (·.id))
  A : RowU wr va (D.map (·.tm))
  T : wr.ownsRow W.heap.size 27 1 told (TW.map (·.1)).length (TW.map (·.1))
  N : wr.ownsRow W.heap.size 27 1 want (TW.map (·.2.1)).length (TW.map (·.2.1))
  tw : ∀ p ∈ TW, RowI wr p.1 p.2.2 ∧ RowI wr p.2.1 p.2.2
  mW : W.heap.size ≤ mB
  mS : ¬ S mB
  sI : ∀ q, vi.ownBlock = some q → ¬ S q
  sA : ∀ q, va.ownBlock = some q → ¬ S q
  sT : ∀ q, told.ownBlock = some q → ¬ S q
  sN : ∀ q, want.ownBlock = some q → ¬ S q
  tS : ∀ p ∈ TW, (∀ q, p.1.ownBlock = some q → ¬ S q) ∧ (∀ q, p.2.1.ownBlock = some q → ¬ S q)
  sep : ∀ q, told.ownBlock = some q → want.ownBlock ≠ some q

variable {W : World} {S S' : Nat → Prop} {mB : Nat} {mo now now' : Int} {vi va vi' va' told want : Value} {D D' : List Tm} {TW : List Tw} {wr w' : World}
theorem LawP.frm (h : LawP W S mB mo now vi va told want D TW wr) (hf : Frm S wr w') (hs : ∀ q, S' q → S q ∨ wr.heap.size ≤ q) : LawP W S' mB mo now vi va told want D TW w' := by
  have key : ∀ {B : Nat} {e : TypeId} {v : Value} {n : Nat} {l : List Value}, wr.ownsRow B e 1 v n l → (∀ q, v.ownBlock = some q → ¬ S q) → w'.ownsRow B e 1 v n l ∧ (∀ q, v.ownBlock = some q → ¬ S' q) := fun ho hn =>
    ⟨ownsRow_keep ho (fun q hq => hf.block q (World.ownsRow.lt ho q hq).2 (hn q hq)), fun q hq hS => by
      rcases hs q hS with h1 | h1
      · exact hn q hq h1
      · have := (World.ownsRow.lt ho q hq).2; omega⟩
  have hm := lt_of_heapT h.blk
  exact ⟨(hf.block _ hm h.mS).trans h.blk, (key h.I h.sI).1, (key h.A h.sA).1, (key h.T h.sT).1, (key h.N h.sN).1, fun p hp => ⟨(key (h.tw p hp).1 (h.tS p hp).1).1, (key (h.tw p hp).2 (h.tS p hp).2).1⟩, h.mW,
    fun hS => by rcases hs _ hS with h1 | h1; exact h.mS h1; omega, (key h.I h.sI).2, (key h.A h.sA).2, (key h.T h.sT).2, (key h.N h.sN).2, fun p hp => ⟨(key (h.tw p hp).1 (h.tS p hp).1).2, (key (h.tw p hp).2 (h.tS p hp).2).2⟩, h.sep⟩
theorem LawP.below (h : LawP W S mB mo now vi va told want D TW wr) (hb : Below wr.heap.size wr w') : LawP W S mB mo now vi va told want D TW w' := h.frm (Frm.ofBelow hb S) (fun q hq => .inl hq)
/-- Four cells stored one behind the other. -/
def st4 (w : World) (b : Nat) (a0 a1 a2 a3 : Value) : World := (((w.setCell ⟨b, 0, none⟩ a0).setCell ⟨b, 1, none⟩ a1).setCell ⟨b, 2, none⟩ a2).setCell ⟨b, 3, none⟩ a3
theorem st4_other (w : World) (b : Nat) (a0 a1 a2 a3 : Value) {q : Nat} (hq : q ≠ b) : (st4 w b a0 a1 a2 a3).heap[q]? = w.heap[q]? := by
  unfold st4
  rw [heap_setCell_other _ _ _ _ (by exact hq), heap_setCell_other _ _ _ _ (by exact hq), heap_setCell_other _ _ _ _ (by exact hq), heap_setCell_other _ _ _ _ (by exact hq)]
theorem st4_same {w : World} {b : Nat} {a0 a1 a2 a3 c0 c1 c2 c3 : Value} {t : TypeId} (h : w.heap[b]? = some (.cells #[c0, c1, c2, c3] t)) : (st4 w b a0 a1 a2 a3).heap[b]? = some (.cells #[a0, a1, a2, a3] t) := by
  unfold st4
  rw [heap_setCell_same _ _ _ _ _ _ (heap_setCell_same _ _ _ _ _ _ (heap_setCell_same _ _ _ _ _ _ (heap_setCell_same _ _ _ _ _ _ h)))]
  rfl
theorem st4_below {B : Nat} {w w0 : World} {b : Nat} (h : Below B w0 w) (hb : B ≤ b) (a0 a1 a2 a3 : Value) : Below B w0 (st4 w b a0 a1 a2 a3) := (((h.setCell (p := ⟨b, 0, none⟩) hb _).setCell (p := ⟨b, 1, none⟩) hb _).setCell (p := ⟨b, 2, none⟩) hb _).setCell (p := ⟨b, 3, none⟩) hb _
theorem st4_frm (w : World) (b : Nat) (a0 a1 a2 a3 : Value) : Frm (fun k => k = b) w (st4 w b a0 a1 a2 a3) := ((((Frm.refl (fun k => k = b) w).setCell ⟨b, 0, none⟩ a0 (.inl rfl)).setCell ⟨b, 1, none⟩ a1 (.inl rfl)).setCell ⟨b, 2, none⟩ a2 (.inl rfl)).setCell ⟨b, 3, none⟩ a3 (.inl rfl)
/-- m = next. -/
theorem LawP.store (h : LawP W S mB mo now vi va told want D TW wr) (hI : RowI wr vi' (D'.map (·.id))) (hA : RowU wr va' (D'.map (·.tm))) (sI : ∀ q, vi'.ownBlock = some q → ¬ S q) (sA : ∀ q, va'.ownBlock = some q → ¬ S q) :
    LawP W S mB mo now' vi' va' told want D' TW (st4 wr mB (.int .u64 now') (.int .i64 mo) vi' va') := by
  have key : ∀ {B : Nat} {e : TypeId} {v : Value} {n : Nat} {l : List Value}, e ≠ 30 → wr.ownsRow B e 1 v n l → (st4 wr mB (.int .u64 now') (.int .i64 mo) vi' va').ownsRow B e 1 v n l := fun hne ho =>
    ownsRow_keep ho (fun q hq => st4_other _ _ _ _ _ _ (ne_ty (ownsRow_ty ho hq) h.blk hne))
  exact ⟨st4_same h.blk, key (by decide) hI, key (by decide) hA, key (by decide) h.T, key (by decide) h.N, fun p hp => ⟨key (by decide) (h.tw p hp).1, key (by decide) (h.tw p hp).2⟩, h.mW, h.mS, sI, sA, h.sT, h.sN, h.tS, h.sep⟩

/-- All that stands before step k. -/
structure RunI (W : World) (mo : Int) (wb mb mB k : Nat) (told want : Value) (S : Nat → Prop) (v vi va : Value) (L D : List Tm) (now sets : Int) (TW : List Tw) (wr : World) : Prop where
  wh : WhAt wr S wb mb mo now sets v L
  law : LawP W S mB mo now vi va told want D TW wr
  bl : Below W.heap.size W wr
  nS : ∀ q, S q → W.heap.size ≤ q
  rel : (L.map z0).Perm D
  rise : Rising D
  turn : ∀ x ∈ D, x.turn ≤ sets
  s0 : 0 ≤ sets ∧ sets ≤ (k : Int)
  n0 : 0 ≤ now ∧ now ≤ 18446744073709551615
  len : D.length ≤ k
  twl : TW.length ≤ k
  twn : ∀ p ∈ TW, p.2.2.length ≤ k
variable {wb mb k : Nat} {v : Value} {L : List Tm} {sets : Int}
theorem RunI.lenL (h : RunI W mo wb mb mB k told want S v vi va L D now sets TW wr) : L.length = D.length := by
  have := h.rel.length_eq
  simpa using this
theorem Rising.apart (h : Rising D) : Apart D := by
  apply apart_turns
  rw [List.Nodup, List.pairwise_map]
  have h' : D.Pairwise (fun x y => x.turn < y.turn) := h
  refine List.Pairwise.imp ?_ h'
  intro a b hab e
  have e' : a.turn = b.turn := e
  omega
theorem RunI.mem (h : RunI W mo wb mb mB k told want S v vi va L D now sets TW wr) (id : Int) : (∃ x ∈ L, x.id = id) ↔ id ∈ D.map (·.id) := by
  have hp := h.rel.map Tm.id
  rw [List.map_map] at hp
  rw [← hp.mem_iff]
  simp [z0]
theorem RunI.next (h : RunI W mo wb mb mB k told want S v vi va L D now sets TW wr) {i : Int} (hL : Least (D.map (·.tm)) D.length i) : rnextOf (D.map (·.tm)) i = nextOf L := by
  have hlen := h.lenL
  rcases hL with ⟨h0, rfl⟩ | ⟨j, rfl, hj, t, ht, h1, h2⟩
  · have : L = [] := List.eq_nil_of_length_eq_zero (by omega)
    subst this
    rfl
  · obtain ⟨x, hx, hxl⟩ := Least.le h.rise (.inr ⟨j, rfl, hj, t, ht, h1, h2⟩)
    cases L with
    | nil => simp at hlen; omega
    | cons y L =>
      have hy := WhAt.least h.wh.hp (x := y) rfl
      have hyD : z0 y ∈ D := h.rel.mem_iff.1 (by simp)
      have hxD : x ∈ D := List.mem_of_getElem? hx
      obtain ⟨x', hx', hxe⟩ := List.mem_map.1 (h.rel.mem_iff.2 hxD)
      have e1 : leT (z0 y) x := by rw [← hxe]; exact (leT_z0 _ _).2 (hy x' hx')
      have e2 : leT x (z0 y) := hxl _ hyD
      have e3 : x = z0 y := h.rise.apart x hxD _ hyD e2 e1
      have htm : (D.map (·.tm))[j]? = some y.tm := by rw [List.getElem?_map, hx, e3]; rfl
      unfold rnextOf nextOf
      rw [if_neg (by omega)]
      simp only [Int.toNat_natCast, List.getD, htm, Option.getD_some]
end Go.Proofs.Ytedhjdkhfndinaa
