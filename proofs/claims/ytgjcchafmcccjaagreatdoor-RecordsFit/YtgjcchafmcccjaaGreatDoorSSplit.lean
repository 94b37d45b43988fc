import Derived.Test.YtgjcchafmcccjaaGreatDoorSField
import Derived.Shelf.Strings.BuilderK
import Derived.Lib.Join
import Derived.Test.YtgjcchafmcccjaaGreatDoorSFun3
/- Layer 6 (schema): wordOf, fieldName, printLine. -/
namespace Go.Proofs
end Go.Proofs
namespace Go.Proofs.YtgjcchafmcccjaaGreatDoor
open Go.RowKit Go.Shelf
set_option linter.unusedVariables false

def wordB (k : Int) : ByteArray := if k = 1 then textW else if k = 2 then numW else if k = 3 then listW else ⟨#[]⟩

/-- A line of words. -/
def lineL (ws : List ByteArray) : List UInt8 := Lib.join (ws.map (·.data.toList)) [32] ++ [10]
end Go.Proofs.YtgjcchafmcccjaaGreatDoor

/- Layer 6 (schema): printLine. -/
namespace Go.Proofs.YtgjcchafmcccjaaGreatDoor
open Go.RowKit Go.Shelf
set_option linter.unusedVariables false

theorem others_below {e : TypeId} {b : Option Nat} {w w' : World} (hb : Below w.heap.size w w') : Lib.OthersKept e b w w' := fun k o hk _ _ => (hb.block k (lt_blk hk)).trans hk
theorem bytes_snoc (l : List UInt8) (s : ByteArray) : Lib.byteCells l ++ Lib.strCells s = Lib.byteCells (l ++ s.data.toList) := by simp [Lib.byteCells, Lib.strCells]
theorem lit_list (l : List UInt8) : (⟨l.toArray⟩ : ByteArray).data.toList = l := by simp

end Go.Proofs.YtgjcchafmcccjaaGreatDoor

/- Layer 6 (schema): indexWords. -/
namespace Go.Proofs.YtgjcchafmcccjaaGreatDoor
open Go.RowKit Go.Shelf
set_option linter.unusedVariables false
attribute [local go_sem] Oper.semAt_some

def nmAt (fs : List Fd) (p : Int) : ByteArray := (fs.getD p.toNat ⟨⟨#[]⟩, 0⟩).n
def namesL (fs : List Fd) (ov : List Int) : List ByteArray := ov.map (nmAt fs)
def joinedL (fs : List Fd) (ov : List Int) : ByteArray := ⟨(Lib.join ((namesL fs ov).map (·.data.toList)) [44]).toArray⟩
def flagsL (u l s : Bool) : List ByteArray := (if u then [uniqueW] else []) ++ ((if l then [lowerW] else []) ++ (if s then [looseW] else []))
def wordsL (fs : List Fd) (x : Ix) : List ByteArray := [indexW, x.n, joinedL fs x.ov] ++ flagsL x.u x.l x.s

theorem info_str : (Tryz.prog.info? 9).map (fun i => (i.zero, i.size, i.bytes)) = some (some (.string ⟨#[]⟩), 1, 16) := by kernel_rfl

/-- While the names are laid. -/
structure WrdI (w : World) (t : TV) (x : XV) (k : Nat) (wr : World) : Prop where
  below : Below w.heap.size w wr
  bt : wr.heap[w.heap.size]? = some (.cells #[.string t.n, .slice t.fa t.fs.length t.fc, .slice t.xa t.xs.length t.xc] 42)
  bx : wr.heap[w.heap.size + 1]? = some (.cells #[.string x.x.n, .slice x.va x.x.ov.length x.vc, .bool x.x.u, .bool x.x.l, .bool x.x.s] 67)
  row : ∃ M : Array Value, wr.heap[w.heap.size + 2]? = some (.cells M 9) ∧ M.size = x.x.ov.length ∧ ∀ j (h : j < x.x.ov.length), j < k → M[j]? = some (.string (nmAt t.fs x.x.ov[j]))

theorem WrdI.next {w : World} {t : TV} {x : XV} {k : Nat} {wr w' : World} (h : WrdI w t x k wr) (hk : k < x.x.ov.length) (hb : Below wr.heap.size wr w') : WrdI w t x (k + 1) (w'.setCell ⟨w.heap.size + 2, k, none⟩ (.string (nmAt t.fs x.x.ov[k]))) := by
  obtain ⟨M, m1, m2, m3⟩ := h.row
  have m1' := (hb.block _ (lt_blk m1)).trans m1
  refine ⟨(h.below.trans (hb.mono h.below.size)).setCell (by show w.heap.size ≤ w.heap.size + 2; omega) _, ?_, ?_, M.setIfInBounds k (.string (nmAt t.fs x.x.ov[k])), set_blk m1' _, by simpa using m2, fun j hj hjk => ?_⟩
  · exact (heap_setCell_other _ _ _ _ (fun e => by have e' : w.heap.size = w.heap.size + 2 := e; omega)).trans ((hb.block _ (lt_blk h.bt)).trans h.bt)
  · exact (heap_setCell_other _ _ _ _ (fun e => by have e' : w.heap.size + 1 = w.heap.size + 2 := e; omega)).trans ((hb.block _ (lt_blk h.bx)).trans h.bx)
  · rcases Nat.lt_or_ge j k with hc | hc
    · rw [Array.getElem?_setIfInBounds_ne (by omega)]
      exact m3 j hj hc
    · have : j = k := by omega
      subst this
      rw [Array.getElem?_setIfInBounds_self_of_lt (by omega)]

theorem join_le (sep : List UInt8) : ∀ (ws : List (List UInt8)) (m : Nat), (∀ x ∈ ws, x.length ≤ m) → (Lib.join ws sep).length ≤ ws.length * (m + sep.length)
  | [], m, h => by simp [Lib.join, List.intercalate]
  | [a], m, h => by
    have := h a (by simp)
    rw [Lib.join_one]
    simp; omega
  | a :: b :: r, m, h => by
    have h1 := h a (by simp)
    have ih := join_le sep (b :: r) m (fun x hx => h x (by simp [hx]))
    have e : Lib.join (a :: b :: r) sep = a ++ (sep ++ Lib.join (b :: r) sep) := by simp [Lib.join, List.intercalate, List.intersperse]
    rw [e, List.length_append, List.length_append]
    have : (a :: b :: r).length * (m + sep.length) = (m + sep.length) + (b :: r).length * (m + sep.length) := by rw [List.length_cons, Nat.succ_mul]; omega
    omega
theorem nmAt_size {t : TV} (h : TOk t) (p : Int) (hp : 0 ≤ p ∧ p < t.fs.length) : (nmAt t.fs p).size ≤ 32 := by
  have hq : p.toNat < t.fs.length := by omega
  unfold nmAt
  rw [List.getD_eq_getElem?_getD, List.getElem?_eq_getElem hq]
  exact (h.fsize _ (List.getElem_mem hq)).1
theorem joined_le' {t : TV} (h : TOk t) {ov : List Int} (hp : ∀ p ∈ ov, 0 ≤ p ∧ p < t.fs.length) (h4 : ov.length ≤ 4) : (Lib.join ((namesL t.fs ov).map (·.data.toList)) [44]).length ≤ 132 := by
  have := join_le [44] ((namesL t.fs ov).map (·.data.toList)) 32 (fun x hx => by
    obtain ⟨a, ha, rfl⟩ := List.mem_map.1 hx
    obtain ⟨p, hpm, rfl⟩ := List.mem_map.1 ha
    simpa using nmAt_size h p (hp p hpm))
  simp only [List.length_map, namesL, List.length_cons, List.length_nil] at this
  have h5 : ov.length * (32 + (0 + 1)) ≤ 132 := by omega
  simp only [namesL]
  omega
theorem joined_le {t : TV} (h : TOk t) {ov : List Int} (hp : ∀ p ∈ ov, 0 ≤ p ∧ p < t.fs.length) (h4 : ov.length ≤ 4) : (Lib.join ((namesL t.fs ov).map (·.data.toList)) (⟨#[44]⟩ : ByteArray).data.toList).length ≤ 140737488355328 :=
  Nat.le_trans (joined_le' h hp h4) (by decide)
theorem words_end {fs : List Fd} {x : Ix} {base : List ByteArray} {u l s : Bool} {w w' : World} {v : Value} {n : Nat} {cs : List Value} (hw : wordsL fs x = base ++ flagsL u l s) (ho : w'.ownsRow w.heap.size 9 1 v n cs) (hb : Below w.heap.size w w') (hc : cs = (base ++ flagsL u l s).map Value.string) :
    ∃ g c, Ending.returned v = .returned (.slice (some ⟨g, 0, none⟩) (wordsL fs x).length c) ∧ (wordsL fs x).length ≤ c ∧ CellsAt w' (some ⟨g, 0, none⟩) ((wordsL fs x).map Value.string) ∧ Below w.heap.size w w' := by
  have hl : n = (wordsL fs x).length := by have := ho.1; rw [hc, ← hw, List.length_map] at this; omega
  have h3 : 3 ≤ (wordsL fs x).length := by simp [wordsL]
  rcases ho.2 with ⟨_, h0⟩ | ⟨g, cap, cur, rfl, _, _, hcap, _⟩
  · omega
  · refine ⟨g, cap, by rw [hl], by rw [← hl]; exact hcap, ?_, hb⟩
    rw [hw, ← hc]
    exact row_cells ho
theorem strs_one (l : List ByteArray) : ∀ u ∈ l.map Value.string, u.oneCell' = true := by
  intro u hu
  obtain ⟨a, _, rfl⟩ := List.mem_map.1 hu
  rfl

end Go.Proofs.YtgjcchafmcccjaaGreatDoor

/- Layer 6 (schema): strings.Split at one byte. -/
namespace Go.Proofs.YtgjcchafmcccjaaGreatDoor
open Go.RowKit
set_option linter.unusedVariables false

theorem one_size (c : UInt8) : (⟨#[c]⟩ : ByteArray).size = 1 := rfl
theorem wsOf_length (s : ByteArray) (c : UInt8) : (wsOf s c).length = Lib.countB s ⟨#[c]⟩ + 1 := Lib.splitB_all _ (by rw [one_size]; decide) 0 _ s rfl
theorem wsOf_most (s : ByteArray) (c : UInt8) : (wsOf s c).length ≤ s.size + 1 := by
  rw [wsOf_length]
  have := Lib.countB_le ⟨#[c]⟩ (by rw [one_size]; decide) s.size s (Nat.le_refl _)
  omega
theorem splitB_size (sep : ByteArray) : ∀ (k : Nat) (s : ByteArray), ∀ x ∈ Lib.splitB sep 0 k s, x.size ≤ s.size
  | 0, s, x, hx => by
    rw [Lib.splitB_zero] at hx
    simp at hx; subst hx; exact Nat.le_refl _
  | k + 1, s, x, hx => by
    unfold Lib.splitB at hx
    split at hx
    · simp at hx; subst hx; exact Nat.le_refl _
    · rcases List.mem_cons.1 hx with rfl | hx
      · rw [ByteArray.size_extract]; omega
      · have := splitB_size sep k _ x hx
        rw [ByteArray.size_extract] at this
        omega
theorem wsOf_size (s : ByteArray) (c : UInt8) : ∀ x ∈ wsOf s c, x.size ≤ s.size := splitB_size _ _ s

theorem split_calls (s : ByteArray) (c : UInt8) (m : Int) (w : World) (hs : s.size ≤ 100000) (hm : w.cell? ⟨1, 0, none⟩ = some (.int .i64 m)) :
    Calls Tryz.prog 33 #[.string s, .string ⟨#[c]⟩] w fun e w' => e = .returned (.slice (some ⟨w.heap.size, 0, none⟩) (wsOf s c).length (wsOf s c).length) ∧ StrsAt w' w.heap.size (wsOf s c) ∧ Below w.heap.size w w' := by
  refine (Tryz.strings_Split s ⟨#[c]⟩ m w (by omega) hm (by rw [one_size]; decide)).mono ?_
  rintro e w' ⟨rfl, rfl⟩
  rw [wsOf_length]
  exact ⟨rfl, new_blk _ _, (Below.refl _ _).alloc (Nat.le_refl _) _⟩
end Go.Proofs.YtgjcchafmcccjaaGreatDoor
