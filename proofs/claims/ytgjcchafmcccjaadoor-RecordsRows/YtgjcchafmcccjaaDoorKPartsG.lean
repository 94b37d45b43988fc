import Derived.Test.YtgjcchafmcccjaaDoorRwLowR
import Derived.Test.YtgjcchafmcccjaaDoorSBase
import Derived.Test.YtgjcchafmcccjaaDoorChecked
import Derived.Laws.IdiomStrings
import Derived.Laws.BytesArg
/- The walks of appendText and appendNum. -/
namespace Go.Proofs.YtgjcchafmcccjaaDoor
open Go.RowKit
set_option linter.unusedVariables false

/-- A text's bytes as they stand in a piece: each byte 0 as 0 and 255. -/
def esc (l : List UInt8) : List UInt8 := l.flatMap fun c => if c = 0 then [0, 255] else [c]
theorem esc_append (l m : List UInt8) : esc (l ++ m) = esc l ++ esc m := by simp [esc]
theorem esc_length (l : List UInt8) : l.length ≤ (esc l).length ∧ (esc l).length ≤ 2 * l.length := by
  induction l with
  | nil => simp [esc]
  | cons c l ih =>
    have : esc (c :: l) = (if c = 0 then [0, 255] else [c]) ++ esc l := by simp [esc]
    rw [this]
    split <;> simp <;> omega

theorem take_snoc (s : ByteArray) (k : Nat) (h : k < s.size) : s.data.toList.take (k + 1) = s.data.toList.take k ++ [s[k]] := by
  rw [List.take_succ_eq_append_getElem (by simpa using h)]; rfl
theorem esc_snoc (l : List UInt8) (s : ByteArray) (k : Nat) (h : k < s.size) (hc : ¬ s[k] = 0) : l ++ esc (s.data.toList.take (k + 1)) = l ++ esc (s.data.toList.take k) ++ [s[k]] := by
  rw [take_snoc s k h, esc_append]; simp [esc, hc]
theorem esc_snoc0 (l : List UInt8) (s : ByteArray) (k : Nat) (h : k < s.size) (hc : s[k] = 0) : l ++ esc (s.data.toList.take (k + 1)) = l ++ esc (s.data.toList.take k) ++ [s[k]] ++ [255] := by
  rw [take_snoc s k h, esc_append]; simp [esc, hc]
theorem esc_take_le (l : List UInt8) (s : ByteArray) (k : Nat) (h : k < s.size) : (l ++ esc (s.data.toList.take k)).length + 2 ≤ l.length + 2 * s.size := by
  have := (esc_length (s.data.toList.take k)).2
  have h2 : (s.data.toList.take k).length ≤ k := List.length_take_le _ _
  simp only [List.length_append]; omega
theorem byte_eq0 {c : UInt8} (h : c = 0) : ((c.toNat : Int) == 0) = true := by subst h; rfl
theorem byte_ne0 {c : UInt8} (h : ¬ c = 0) : ((c.toNat : Int) == 0) = false := by
  have : c.toNat ≠ 0 := fun e => h (UInt8.toNat_inj.1 (by simpa using e))
  simpa using this

/-- A number's eight bytes, the highest first. -/
def numByte (n : Int) (i : Nat) : UInt8 := UInt8.ofNat (n / 2 ^ (56 - 8 * i) % 256).toNat
def num8 (n : Int) : List UInt8 := (List.range 8).map (numByte n)

theorem byte_back (x : Int) (h0 : 0 ≤ x) (h1 : x < 256) : ((UInt8.ofNat x.toNat).toNat : Int) = x := by
  rw [UInt8.toNat_ofNat']; omega
theorem numByte_val (n : Int) (i : Nat) : ((numByte n i).toNat : Int) = n / 2 ^ (56 - 8 * i) % 256 := byte_back _ (by omega) (by omega)
theorem num_cell (n : Int) (k : Nat) : bs [numByte n k] = [.int .u8 (n / 2 ^ (56 - 8 * k) % 256)] := by simp [bs, numByte_val]
theorem num8_snoc (l : List UInt8) (n : Int) (k : Nat) (h : k < 8) : l ++ (num8 n).take (k + 1) = l ++ (num8 n).take k ++ [numByte n k] := by
  rw [List.take_succ_eq_append_getElem (by simpa [num8] using h)]; simp [num8]
theorem num8_take_le (l : List UInt8) (n : Int) (k : Nat) : (l ++ (num8 n).take k).length ≤ l.length + 8 := by
  have : ((num8 n).take k).length ≤ 8 := by
    refine Nat.le_trans (List.length_take_le' _ _) ?_; simp [num8]
  simp only [List.length_append]; omega

end Go.Proofs.YtgjcchafmcccjaaDoor

/- The walk of appendPiece. -/
namespace Go.Proofs.YtgjcchafmcccjaaDoor
open Go.RowKit
set_option linter.unusedVariables false

/-- A part's piece; open: a text without its end. -/
def piece (p : Pt) (op : Bool) : List UInt8 :=
  if p.k == 1 then 1 :: (esc p.t.data.toList ++ if op then [] else [0, 1]) else if p.k == 2 then 2 :: num8 p.n else [3, UInt8.ofNat p.n.toNat]

theorem piece_length (p : Pt) (op : Bool) : (piece p op).length ≤ 2 * p.t.size + 9 := by
  unfold piece
  have := (esc_length p.t.data.toList).2
  have h2 : p.t.data.toList.length = p.t.size := by simp
  split
  · cases op <;> simp <;> omega
  · split <;> simp [num8]

theorem vld_cases {p : Pt} (h : vldB p = true) : (p.k = 1 ∧ p.n = 0) ∨ (p.k = 2 ∧ p.t.toList = []) ∨ (p.k = 3 ∧ p.t.toList = [] ∧ (p.n = 0 ∨ p.n = 1)) := by
  unfold vldB at h
  split at h
  · exact .inl ⟨eq_of_beq ‹_›, by simpa using h⟩
  · split at h
    · exact .inr (.inl ⟨eq_of_beq ‹_›, by simpa using h⟩)
    · refine .inr (.inr ?_); simpa using h

end Go.Proofs.YtgjcchafmcccjaaDoor

/- The walks of valid and Valid. -/
namespace Go.Proofs.YtgjcchafmcccjaaDoor
open Go.RowKit
set_option linter.unusedVariables false

theorem vld_a {k n : Int} {t : ByteArray} (h : (k == 1) = true) : (n == 0) = vldB ⟨k, t, n⟩ := by simp [vldB, h]
theorem vld_b {k n : Int} {t : ByteArray} (h : (k == 1) = false) (h3 : (k == 3) = true) (hn : 1 < n) : false = vldB ⟨k, t, n⟩ := by
  have : k = 3 := by simpa using h3
  subst this
  simp [vldB]
  intros; omega
theorem vld_c {k n : Int} {t : ByteArray} (h : (k == 1) = false) (h3 : (k == 3) = true) (h0 : 0 ≤ n) (hn : n ≤ 1) : t.toList.isEmpty = vldB ⟨k, t, n⟩ := by
  have : k = 3 := by simpa using h3
  subst this
  have : n = 0 ∨ n = 1 := by omega
  simp [vldB, this]
theorem vld_d {k n : Int} {t : ByteArray} (h : (k == 1) = false) (h3 : (k == 2) = true) : t.toList.isEmpty = vldB ⟨k, t, n⟩ := by
  simp [vldB, h, h3]
theorem vld_e {k n : Int} {t : ByteArray} (h : (k == 1) = false) (h3 : (k == 3) = false) (h2 : (k == 2) = false) : false = vldB ⟨k, t, n⟩ := by
  simp [vldB, h, h3, h2]

theorem vld_f {k n : Int} {t : ByteArray} (h1 : (k == 1) = false) (h2 : (k == 2) = false) (h3 : k = 3) (ht : t.toList = []) (hn : n = 0) : true = vldB ⟨k, t, n⟩ := by
  subst h3 hn; simp [vldB, ht]
theorem vld_g {k n : Int} {t : ByteArray} (h1 : (k == 1) = false) (h2 : (k == 2) = false) (h3 : k = 3) (ht : t.toList = []) : (n == 0 || n == 1) = vldB ⟨k, t, n⟩ := by
  subst h3; simp [vldB, ht]
theorem vld_h {k n : Int} {t : ByteArray} (h1 : (k == 1) = false) (h2 : (k == 2) = false) (h3 : k = 3) (ht : ¬ t.toList = []) : false = vldB ⟨k, t, n⟩ := by
  subst h3; simp [vldB, ht]
theorem vld_i {k n : Int} {t : ByteArray} (h1 : (k == 1) = false) (h2 : (k == 2) = false) (h3 : ¬ k = 3) : false = vldB ⟨k, t, n⟩ := by
  simp [vldB, h1, h2, h3]

end Go.Proofs.YtgjcchafmcccjaaDoor

/- The walks of allValid and AllValid. -/
namespace Go.Proofs.YtgjcchafmcccjaaDoor
open Go.RowKit
set_option linter.unusedVariables false

theorem all_take_succ (ps : List Pt) (k : Nat) (h : k < ps.length) : (ps.take (k + 1)).all vldB = ((ps.take k).all vldB && vldB ps[k]) := by
  rw [List.take_succ_eq_append_getElem h, List.all_append]; simp only [List.all_cons, List.all_nil, Bool.and_true]

theorem all_false_at (ps : List Pt) (k : Nat) (h : k < ps.length) (hv : vldB ps[k] = false) : false = ps.all vldB := by
  cases he : ps.all vldB with
  | false => rfl
  | true => rw [List.all_eq_true] at he; rw [he _ (List.getElem_mem h)] at hv; exact hv.symm

theorem all_true_at (ps : List Pt) (k : Nat) (h : ¬ k < ps.length) (hv : (ps.take k).all vldB = true) : true = ps.all vldB := by
  rw [List.take_of_length_le (by omega)] at hv; exact hv.symm

theorem below_call {B : Nat} {w wr w' : World} {o : Obj} (hb : Below B w wr) (hB : B ≤ wr.heap.size) (h : Below (wr.alloc o).heap.size (wr.alloc o) w') : Below B w w' :=
  (hb.alloc hB o).trans (h.mono (by simp; omega))

theorem below_size {w wr : World} (hb : Below w.heap.size w wr) : w.heap.size ≤ wr.heap.size := hb.size

end Go.Proofs.YtgjcchafmcccjaaDoor

/- The walk of write, Encode and Begin. -/
namespace Go.Proofs.YtgjcchafmcccjaaDoor
open Go.RowKit
set_option linter.unusedVariables false

/-- The pieces one behind the other; op: the last text is left open. -/
def enc (op : Bool) : List Pt → List UInt8
  | [] => []
  | [p] => piece p op
  | p :: q :: r => piece p false ++ enc op (q :: r)

theorem enc_cons (op : Bool) (p : Pt) (r : List Pt) : enc op (p :: r) = piece p (op && r.isEmpty) ++ enc op r := by
  cases r with
  | nil => simp [enc]
  | cons q r => simp [enc]

theorem enc_drop (op : Bool) (ps : List Pt) (k : Nat) (h : k < ps.length) : enc op (ps.drop k) = piece ps[k] (op && decide (k + 1 = ps.length)) ++ enc op (ps.drop (k + 1)) := by
  rw [List.drop_eq_getElem_cons h, enc_cons]
  congr 3
  rw [Bool.eq_iff_iff]; simp; omega

theorem size_of_nil {t : ByteArray} (h : t.toList = []) : t.size = 0 := by
  have h' : t.data.toList = [] := by rw [← ByteArray.toList_eq]; exact h
  show t.data.size = 0
  rw [← Array.length_toList, h']; rfl

theorem piece_text_le (p : Pt) (op : Bool) (h : vldB p = true) : p.t.size + 1 ≤ (piece p op).length := by
  have h1 := (esc_length p.t.data.toList).1
  have h2 : p.t.data.toList.length = p.t.size := by simp
  rcases vld_cases h with ⟨hk, hn⟩ | ⟨hk, ht⟩ | ⟨hk, ht, hn⟩
  · simp [piece, hk]; omega
  · have := size_of_nil ht
    simp [piece, hk]
    omega
  · have := size_of_nil ht
    simp [piece, hk]
    omega

/-- What Encode (op false) and Begin (op true) answer. -/
def encAns (op : Bool) (ps : List Pt) : List UInt8 × Int :=
  if ps.all vldB then if (enc op ps).length ≤ 1024 then (enc op ps, 0) else ([], 11) else ([], 10)

theorem ret_pair {s s' : ByteArray} {e e' : Int} (h : s = s') (h2 : e = e') : Ending.returned (.tuple #[.string s, .int .i64 e]) = .returned (.tuple #[.string s', .int .i64 e']) := by rw [h, h2]

end Go.Proofs.YtgjcchafmcccjaaDoor

/- Layer 7 (rows): kindAt, partKind. -/
namespace Go.Proofs.YtgjcchafmcccjaaDoor
open Go.RowKit
set_option linter.unusedVariables false

/-- The kind of the field at a place; of its parts. -/
def kindA (fs : List Fd) (p : Int) : Int := if 0 ≤ p ∧ p < fs.length then (fs.getD p.toNat ⟨⟨#[]⟩, 0⟩).k else 0
def partK (k : Int) : Int := if k = 1 ∨ k = 3 then 1 else if k = 2 then 2 else 0
end Go.Proofs.YtgjcchafmcccjaaDoor

/- Slices of parts that a call has made itself. -/
namespace Go.Proofs.YtgjcchafmcccjaaDoor
open Go.RowKit
set_option linter.unusedVariables false

def pcs (ps : List Pt) : List Value := ps.flatMap Pt.cells
theorem pcs_append (ps qs : List Pt) : pcs (ps ++ qs) = pcs ps ++ pcs qs := by simp [pcs]
theorem pcs_length (ps : List Pt) : (pcs ps).length = ps.length * 3 := by
  induction ps with
  | nil => rfl
  | cons p ps ih => simp only [pcs, List.flatMap_cons, List.length_append] at ih ⊢; rw [ih]; simp [Pt.cells]; omega
theorem pcs_one (ps : List Pt) : ∀ u ∈ pcs ps, u.oneCell' = true := by
  intro u hu
  obtain ⟨p, _, hp⟩ := List.mem_flatMap.1 hu
  simp [Pt.cells] at hp
  rcases hp with rfl | rfl | rfl <;> rfl
theorem pcs_at (ps : List Pt) (i : Nat) (p : Pt) (h : ps[i]? = some p) (j : Nat) (hj : j < 3) : (pcs ps)[i * 3 + j]? = p.cells[j]? := by
  induction ps generalizing i with
  | nil => simp at h
  | cons q ps ih =>
    have e : pcs (q :: ps) = q.cells ++ pcs ps := by simp [pcs]
    have hl : q.cells.length = 3 := rfl
    rw [e]
    cases i with
    | zero =>
      simp at h; subst h
      rw [Nat.zero_mul, Nat.zero_add, List.getElem?_append_left (by omega)]
    | succ i =>
      rw [List.getElem?_append_right (by omega), hl, show (i + 1) * 3 + j - 3 = i * 3 + j by omega]
      exact ih i (by simpa using h)

theorem PartsAt.wf {w : World} {ao : Option Addr} {ps : List Pt} (h : PartsAt w ao ps) : ∀ p ∈ ps, p.wf := by
  intro p hp
  obtain ⟨i, hi, rfl⟩ := List.getElem_of_mem hp
  obtain ⟨_, _, _, _, _, _, hw⟩ := h i ps[i] (by simp [hi])
  exact hw

theorem parts_take (ps : List Pt) (k : Nat) (h : k < ps.length) : ps.take (k + 1) = ps.take k ++ [ps[k]] := List.take_succ_eq_append_getElem h
end Go.Proofs.YtgjcchafmcccjaaDoor
