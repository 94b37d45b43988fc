import Derived.Test.YtjbnbpclelbohaaSGen
import Derived.Test.YtjbnbpclelbohaaKWrite
import Derived.Lib.ConvBytes
import Derived.Test.YtjbnbpclelbohaaKText
/- Layer 7 (rows): Low, the document's Low; kindAt, partKind. -/
namespace Go.Proofs.Ytjbnbpclelbohaa
open Go.RowKit
set_option linter.unusedVariables false

def lowB (b : UInt8) : UInt8 := if 65 ≤ b.toNat ∧ b.toNat ≤ 90 then b + 32 else b
def lowS (s : ByteArray) : ByteArray := ⟨(s.data.toList.map lowB).toArray⟩
theorem lowB_toNat (b : UInt8) : (lowB b).toNat = if 65 ≤ b.toNat ∧ b.toNat ≤ 90 then b.toNat + 32 else b.toNat := by
  unfold lowB
  split
  · next h =>
    rw [UInt8.toNat_add]
    have : (32 : UInt8).toNat = 32 := rfl
    rw [this]
    omega
  · rfl
theorem lowS_size (s : ByteArray) : (lowS s).size = s.size := by
  show (s.data.toList.map lowB).toArray.size = s.data.size
  rw [List.size_toArray, List.length_map, Array.length_toList]
theorem lowB_low (b : UInt8) : lowB (lowB b) = lowB b := by
  apply UInt8.toNat_inj.1
  rw [lowB_toNat (lowB b), lowB_toNat b]
  by_cases h : 65 ≤ b.toNat ∧ b.toNat ≤ 90
  · rw [if_pos h, if_neg (by omega)]
  · rw [if_neg h, if_neg h]
theorem lowS_low (s : ByteArray) : lowS (lowS s) = lowS s := by
  simp [lowS, Function.comp_def, lowB_low]

theorem conv_bytes (w : World) (s : ByteArray) (n : Nat) (hn : s.size = n) : ∃ cap w1, (convert 9 77 (.string s)).run Try.prog w = .ok (.slice (some ⟨w.heap.size, 0, none⟩) n cap) w1 ∧
    (∀ j (h : j < n), w1.cell? ⟨w.heap.size, j, none⟩ = some (.int .u8 (s.data.toList.getD j 0).toNat) ∧ w1.frozen? ⟨w.heap.size, j, none⟩ = false) ∧ Below w.heap.size w w1 ∧ w.heap.size < w1.heap.size := by
  subst hn
  refine ⟨_, _, Lib.run_convert_string_bytes w _ _ _ s Try.underlying9 Try.underlying77 Try.underlying5, ?_, ?_, ?_⟩
  · intro j hj
    refine ⟨Lib.bytesWorld_cell w _ s j hj, ?_⟩
    simp only [World.frozen?, Lib.bytesWorld_at_new]
    simp [Lib.bytesCells]
    omega
  · refine ⟨rfl, rfl, rfl, by rw [Lib.bytesWorld_size]; omega, fun k hk => Lib.bytesWorld_at_old w _ s k hk⟩
  · rw [Lib.bytesWorld_size]; omega

/-- The bytes of s lie at g, the first k of them lowered. -/
def LowI (s : ByteArray) (g k : Nat) (w : World) : Prop := ∀ j (h : j < s.size), w.cell? ⟨g, j, none⟩ = some (.int .u8 ((if j < k then lowB s[j] else s[j]).toNat : Int)) ∧ w.frozen? ⟨g, j, none⟩ = false
theorem LowI.keep {s : ByteArray} {g k : Nat} {w : World} (h : LowI s g k w) (hk : k < s.size) (hb : ¬ (65 ≤ s[k].toNat ∧ s[k].toNat ≤ 90)) : LowI s g (k + 1) w := by
  intro j hj
  have := h j hj
  by_cases e : j = k
  · subst e
    rw [if_neg (by omega)] at this
    rw [if_pos (by omega), show lowB s[j] = s[j] by unfold lowB; rw [if_neg hb]]
    exact this
  · have e2 : (j < k + 1) = (j < k) := by simp; omega
    simp only [e2]
    exact this
theorem LowI.set {s : ByteArray} {g k : Nat} {w : World} (h : LowI s g k w) (hk : k < s.size) (hb : 65 ≤ s[k].toNat ∧ s[k].toNat ≤ 90) : LowI s g (k + 1) (w.setCell ⟨g, k, none⟩ (.int .u8 ((s[k].toNat : Int) + 32))) := by
  intro j hj
  have h1 := h j hj
  refine ⟨?_, (World.frozen?_setCell _ _ _ _).trans h1.2⟩
  by_cases e : j = k
  · subst e
    rw [World.cell?_setCell_same _ _ _ h1.1, if_pos (by omega), lowB_toNat, if_pos hb]
    simp
  · have hne : (⟨g, k, none⟩ : Addr) ≠ ⟨g, j, none⟩ := fun e' => e (by simpa using e'.symm)
    rw [World.cell?_setCell_other _ _ _ _ hne, h1.1]
    have e2 : (j < k + 1) = (j < k) := by simp; omega
    simp only [e2]
theorem LowI.string {s : ByteArray} {g cap : Nat} {w : World} (h : LowI s g s.size w) : (convert 77 9 (.slice (some ⟨g, 0, none⟩) s.size cap)).run Try.prog w = .ok (.string (lowS s)) w := by
  have hl : (s.data.toList.map lowB).length = s.size := by simp
  have := run_convert_bytes_back (P := Try.prog) w 77 9 5 ⟨g, 0, none⟩ cap (s.data.toList.map lowB) Try.underlying77 Try.underlying5 Try.underlying9 ?_
  · rw [hl] at this; exact this
  · intro i hi
    rw [hl] at hi
    have hadd : (⟨g, 0, none⟩ : Addr).add i = ⟨g, i, none⟩ := by unfold Addr.add; split <;> simp_all
    rw [hadd, (h i hi).1, if_pos hi]
    simp
    rfl

set_option maxHeartbeats 1000000 in
theorem low_calls (s : ByteArray) (w : World) (hs : s.size ≤ 140737488351296) :
    Calls Try.prog 16 #[.string s] w fun e w' => e = .returned (.string (lowS s)) ∧ Below w.heap.size w w' := by
  obtain ⟨cap, w1, hrun, hcells, hb1, hs1⟩ := conv_bytes w s s.size rfl
  have HI0 : Hid (LowI s w.heap.size 0 w1) := fun j hj => by
    have := hcells j hj
    rw [if_neg (by omega)]
    refine ⟨?_, this.2⟩
    rw [this.1, show s.data.toList.getD j 0 = s[j] by rw [List.getD_eq_getElem?_getD, List.getElem?_eq_getElem (by simpa using hj)]; rfl]
  have HB1 : Hid (Below w.heap.size w w1) := hb1
  clear hcells hb1 hs1
  go_enter Try.func16, Try.ntmps16
  go_wp2
  go_loopw [4, 5, 10] (fun a4 a5 x wr => ∃ k : Nat, k ≤ s.size ∧ x = .int .i64 k ∧ Hid (LowI s w.heap.size k wr) ∧ Hid (Below w.heap.size w wr)) (fun _ _ x _ => s.size - (intOf x).toNat)
  case atStart => exact ⟨0, Nat.zero_le _, rfl, HI0, HB1⟩
  case round =>
    obtain ⟨k, hk, rfl, HI, HB⟩ := hrel
    clear hrun HI0 HB1
    by_cases hlt : k < s.size
    · have c0 := (HI.out k hlt).1
      have z0 := (HI.out k hlt).2
      rw [if_neg (by omega)] at c0
      have hby : (s[k].toNat : Int) ≤ 255 := by have := s[k].toNat_lt; omega
      by_cases hb : 65 ≤ s[k].toNat ∧ s[k].toNat ≤ 90
      · have q1 : (65 : Int) ≤ (s[k].toNat : Int) := by omega
        have q2 : (s[k].toNat : Int) ≤ 90 := by omega
        have HN : Hid (LowI s w.heap.size (k + 1) (wr.setCell ⟨w.heap.size, k, none⟩ (.int .u8 ((s[k].toNat : Int) + 32)))) := HI.out.set hlt hb
        have qa : (s[k].toNat : Int) + 97 - 65 = (s[k].toNat : Int) + 32 := by omega
        clear hb
        go_wp2
        go_roundw
        case rel => exact ⟨k + 1, by omega, by go_num, by first | exact HN | (rw [qa]; exact HN), HB.out.setCell (Nat.le_refl _) _⟩
        case measure => simp [intOf]; omega
      · have HN : Hid (LowI s w.heap.size (k + 1) wr) := HI.out.keep hlt hb
        by_cases h65 : 65 ≤ s[k].toNat
        · have q1 : (65 : Int) ≤ (s[k].toNat : Int) := by omega
          have q2 : ¬ ((s[k].toNat : Int) ≤ 90) := by omega
          clear hb h65
          go_wp2
          go_roundw
          case rel => exact ⟨k + 1, by omega, by go_num, HN, HB⟩
          case measure => simp [intOf]; omega
        · have q1 : ¬ ((65 : Int) ≤ (s[k].toNat : Int)) := by omega
          clear hb h65
          go_wp2
          go_roundw
          case rel => exact ⟨k + 1, by omega, by go_num, HN, HB⟩
          case measure => simp [intOf]; omega
    · obtain rfl : k = s.size := by omega
      have hst := HI.out.string (cap := cap)
      go_wp2
      go_ret
      exact ⟨rfl, HB.out⟩

/-- The kind of the field at a place; of its parts. -/
def kindA (fs : List Fd) (p : Int) : Int := if 0 ≤ p ∧ p < fs.length then (fs.getD p.toNat ⟨⟨#[]⟩, 0⟩).k else 0
def partK (k : Int) : Int := if k = 1 ∨ k = 3 then 1 else if k = 2 then 2 else 0
theorem kindAt_calls (fa : Option Addr) (fc : Nat) (fs : List Fd) (p : Nat) (w : World) (hl : fs.length ≤ 16) (hp : p < fs.length) (h : CellsAt w fa (fcs fs)) :
    Calls Try.prog 60 #[.slice fa fs.length fc, .int .i64 p] w fun e w' => e = .returned (.int .i64 fs[p].k) ∧ w' = w := by
  obtain ⟨b, off, rfl, c0, c1⟩ := h.fld p hp
  have q1 : ¬ ((p : Int) < 0) := by omega
  have q2 : ¬ ((fs.length : Int) ≤ (p : Int)) := by omega
  go_enter Try.func60, Try.ntmps60
  go_wp2
  go_ret
  exact ⟨rfl, rfl⟩
theorem partKind_calls (fa : Option Addr) (fc : Nat) (fs : List Fd) (p : Nat) (w : World) (hl : fs.length ≤ 16) (hp : p < fs.length) (h : CellsAt w fa (fcs fs)) :
    Calls Try.prog 42 #[.slice fa fs.length fc, .int .i64 p] w fun e w' => e = .returned (.int .i64 (partK fs[p].k)) ∧ w' = w := by
  have HK : Hid (Calls Try.prog 60 #[.slice fa fs.length fc, .int .i64 p] w fun e w' => e = .returned (.int .i64 fs[p].k) ∧ w' = w) := kindAt_calls fa fc fs p w hl hp h
  generalize fs[p].k = k at *
  have HP : Hid (partK k = if k = 1 ∨ k = 3 then 1 else if k = 2 then 2 else 0) := rfl
  clear h
  by_cases h1 : k = 1
  · subst h1
    go_enter Try.func42, Try.ntmps42
    go_wp2_with fail
    refine HK.out.mono ?_
    rintro e w' ⟨rfl, rfl⟩
    go_wp2
    go_ret
    exact ⟨by rw [HP.out]; rfl, rfl⟩
  · by_cases h3 : k = 3
    · subst h3
      go_enter Try.func42, Try.ntmps42
      go_wp2_with fail
      refine HK.out.mono ?_
      rintro e w' ⟨rfl, rfl⟩
      go_wp2
      go_ret
      exact ⟨by rw [HP.out]; rfl, rfl⟩
    · by_cases h2 : k = 2
      · subst h2
        go_enter Try.func42, Try.ntmps42
        go_wp2_with fail
        refine HK.out.mono ?_
        rintro e w' ⟨rfl, rfl⟩
        go_wp2
        go_ret
        exact ⟨by rw [HP.out]; rfl, rfl⟩
      · have q1 : (k == 1) = false := by simpa using h1
        have q2 : (k == 2) = false := by simpa using h2
        have q3 : (k == 3) = false := by simpa using h3
        have HQ : Hid (partK k = 0) := by rw [Hid, HP.out, if_neg (by omega), if_neg h2]
        clear h1 h2 h3
        go_enter Try.func42, Try.ntmps42
        go_wp2_with fail
        refine HK.out.mono ?_
        rintro e w' ⟨rfl, rfl⟩
        go_wp2
        go_ret
        exact ⟨by rw [HQ.out]; rfl, rfl⟩
end Go.Proofs.Ytjbnbpclelbohaa

/- Slices of parts that a call has made itself. -/
namespace Go.Proofs.Ytjbnbpclelbohaa
open Go.RowKit
set_option linter.unusedVariables false

def pcs (ps : List Pt) : List Value := ps.flatMap Pt.cells
theorem pcs_append (ps qs : List Pt) : pcs (ps ++ qs) = pcs ps ++ pcs qs := by simp [pcs]
theorem pcs_length (ps : List Pt) : (pcs ps).length = ps.length * 3 := by
  induction ps with
  | nil => rfl
  | cons p ps ih => simp only [pcs, List.flatMap_cons, List.length_append] at ih ⊢; rw [ih]; simp [Pt.cells]; omega
theorem pcs_one (ps : List Pt) : ∀ u ∈ pcs ps, u.oneCell' = true := by
  intro u hu
  obtain ⟨p, _, hp⟩ := List.mem_flatMap.1 hu
  simp [Pt.cells] at hp
  rcases hp with rfl | rfl | rfl <;> rfl
theorem pcs_at (ps : List Pt) (i : Nat) (p : Pt) (h : ps[i]? = some p) (j : Nat) (hj : j < 3) : (pcs ps)[i * 3 + j]? = p.cells[j]? := by
  induction ps generalizing i with
  | nil => simp at h
  | cons q ps ih =>
    have e : pcs (q :: ps) = q.cells ++ pcs ps := by simp [pcs]
    have hl : q.cells.length = 3 := rfl
    rw [e]
    cases i with
    | zero =>
      simp at h; subst h
      rw [Nat.zero_mul, Nat.zero_add, List.getElem?_append_left (by omega)]
    | succ i =>
      rw [List.getElem?_append_right (by omega), hl, show (i + 1) * 3 + j - 3 = i * 3 + j by omega]
      exact ih i (by simpa using h)

/-- The slice v, made by the call itself, holds the parts ps. -/
def OwnP (w : World) (B : Nat) (v : Value) (ps : List Pt) : Prop := w.ownsRow B 57 3 v ps.length (pcs ps)

theorem OwnP.nil (w : World) (B : Nat) : OwnP w B (.slice none 0 0) [] := World.ownsRow_nil _ _ _ _
theorem OwnP.alloc {w : World} {B : Nat} {v : Value} {l : List Pt} (h : OwnP w B v l) (o : Obj) : OwnP (w.alloc o) B v l := World.ownsRow.alloc h o
theorem OwnP.lt {w : World} {B : Nat} {v : Value} {l : List Pt} (h : OwnP w B v l) : ∀ k, v.ownBlock = some k → B ≤ k ∧ k < w.heap.size := World.ownsRow.lt h
theorem OwnP.shape {w : World} {B : Nat} {v : Value} {l : List Pt} (h : OwnP w B v l) : ∃ ao cap, v = .slice ao l.length cap := by
  rcases h.2 with ⟨rfl, h0⟩ | ⟨g, cap, cur, rfl, _⟩
  · exact ⟨none, 0, by rw [h0]⟩
  · exact ⟨_, _, rfl⟩
theorem OwnP.below {w w' : World} {B : Nat} {v : Value} {l : List Pt} (h : OwnP w B v l) (hb : Below w.heap.size w w') : OwnP w' B v l :=
  World.ownsRow.kept (row := none) h ⟨hb.os, hb.tape, hb.output, hb.size, fun k hk _ => hb.block k hk⟩ (by cases v.ownBlock <;> simp)
theorem OwnP.toBelow {w w' : World} {B : Nat} {v v' : Value} {l : List Pt} (h : OwnP w B v l) (hB : B ≤ w.heap.size) (hg : Grew w w' v v') : Below B w w' := hg.toBelow hB fun k hk => (h.lt k hk).1
theorem OwnP.mono {w : World} {B B' : Nat} {v : Value} {l : List Pt} (h : OwnP w B v l) (hB : B' ≤ B) : OwnP w B' v l := by
  refine ⟨h.1, ?_⟩
  rcases h.2 with h | ⟨g, cap, cur, hv, hb, r⟩
  · exact .inl h
  · exact .inr ⟨g, cap, cur, hv, Nat.le_trans hB hb, r⟩

theorem OwnP.storedOther {w : World} {B : Nat} {v : Value} {l : List Pt} (h : OwnP w B v l) {a : Addr} (ha : v.ownBlock ≠ some a.block) (u : Value) : OwnP (w.setCell a u) B v l := ownsRow_setCell_other h ha u

theorem OwnP.parts {w : World} {B : Nat} {ao : Option Addr} {n cap : Nat} {l : List Pt} (h : OwnP w B (.slice ao n cap) l) (hw : ∀ p ∈ l, p.wf) : PartsAt w ao l := by
  intro i p hp
  have hil : i < l.length := (List.getElem?_eq_some_iff.1 hp).1
  have hmem : p ∈ l := List.mem_of_getElem? hp
  rcases h.2 with ⟨he, h0⟩ | ⟨g, cap', cur, he, _⟩
  · omega
  · simp only [Value.slice.injEq] at he
    obtain ⟨rfl, rfl, rfl⟩ := he
    refine ⟨g, 0, rfl, ?_, ?_, ?_, hw p hmem⟩
    · rw [Nat.zero_add, World.ownsRow.cellAt h (i * 3) (by omega), ← Nat.add_zero (i * 3), pcs_at l i p hp 0 (by omega)]; rfl
    · rw [Nat.zero_add, World.ownsRow.cellAt h (i * 3 + 1) (by omega), pcs_at l i p hp 1 (by omega)]; rfl
    · rw [Nat.zero_add, World.ownsRow.cellAt h (i * 3 + 2) (by omega), pcs_at l i p hp 2 (by omega)]; rfl

theorem PartsAt.wf {w : World} {ao : Option Addr} {ps : List Pt} (h : PartsAt w ao ps) : ∀ p ∈ ps, p.wf := by
  intro p hp
  obtain ⟨i, hi, rfl⟩ := List.getElem_of_mem hp
  obtain ⟨_, _, _, _, _, _, hw⟩ := h i ps[i] (by simp [hi])
  exact hw

theorem info_part : (Try.prog.info? 57).map (fun i => (i.zero, i.size, i.bytes)) = some (some (.agg #[.int .i64 0, .string ⟨#[]⟩, .int .u64 0]), 3, 32) := by kernel_rfl

/-- append(out, p), p laid right ahead. -/
theorem append_part (W : World) {ops : Array Oper} {rest : List Oper} {o : Oper} {a : Act} {Q : Exit → Act → World → Prop} (hgd : o.guard = none) (s x : Operand)
    (ho : o.op = .call { callee := .builtin .append, args := #[s, x], argTypes := #[51, 51] })
    (B : Nat) (v : Value) (l : List Pt) (hs : a.eval s = v) (news : List Pt) (g m c : Nat) (cs : Array Value) (hx : a.eval x = .slice (some ⟨g, 0, none⟩) m c) (hm : news.length = m) (hc : cs = (pcs news).toArray)
    (hg : g = W.heap.size) (hown : OwnP W B v l) (hlen : (l.length + m) * 32 ≤ 140737488355328) (hB : B ≤ W.heap.size)
    (h : ∀ v' w', OwnP w' B v' (l ++ news) → Grew W w' v v' → wpList Try.prog ops Q rest (a.put o.dst v') w') : wpList Try.prog ops Q (o :: rest) a (W.alloc (.cells cs 57)) := by
  obtain ⟨i0, hi, hz0, hz1, hz2⟩ := info_parts info_part
  subst hg hc hm
  refine wpList_append_grew _ hgd s x 51 ho B 57 i0 _ 3 32 Try.underlying51 hi hz0 hz1 hz2 rfl (by decide) v l.length (pcs l) hs (hown.alloc _) ⟨W.heap.size, 0, none⟩ news.length c (pcs news) hx (pcs_length _) (cells_new _ _ _) (pcs_one _) (by unfold maxLen; omega) (by omega) (by simp; omega) ?_
  intro v' w' h1 h2 _
  refine h v' w' ?_ h2.ofAlloc
  unfold OwnP
  rw [pcs_append, List.length_append]
  exact h1

theorem parts_take (ps : List Pt) (k : Nat) (h : k < ps.length) : ps.take (k + 1) = ps.take k ++ [ps[k]] := List.take_succ_eq_append_getElem h
end Go.Proofs.Ytjbnbpclelbohaa
