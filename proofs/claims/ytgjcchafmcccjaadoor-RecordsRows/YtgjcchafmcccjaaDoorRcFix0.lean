import Derived.Test.YtgjcchafmcccjaaDoorRcLabel
import Derived.Test.YtgjcchafmcccjaaDoorRcAddr
import Derived.Test.YtgjcchafmcccjaaDoorRwLowR
import Derived.Laws.ResultCell
import Derived.Laws.Rows
import Derived.Lib.BufferMore
import Derived.Test.YtgjcchafmcccjaaDoorShelf
/- Layer 9 (records): the law's recordsFixed. -/
namespace Go.Proofs.YtgjcchafmcccjaaDoor
open Go.RowKit
set_option linter.unusedVariables false

def web1 : ByteArray := ⟨#[87, 101, 98, 45, 49]⟩
def ten255 : ByteArray := ⟨#[49, 48, 46, 48, 46, 48, 46, 50, 53, 53]⟩
theorem web1_lab : labT web1 = ⟨#[119, 101, 98, 45, 49]⟩ ∧ labE web1 = 0 := ⟨by kernel_rfl, by kernel_rfl⟩
theorem ten_words : wsOf ten255 46 = [⟨#[49, 48]⟩, ⟨#[48]⟩, ⟨#[48]⟩, ⟨#[50, 53, 53]⟩] := by kernel_rfl
theorem ten_ok : adrOk ten255 = true := by kernel_rfl
theorem ten_adr : adrA ten255 = #[.agg #[.int .u8 10, .int .u8 0, .int .u8 0, .int .u8 255], .int .i64 0] := by
  rw [adrA_yes ten_ok, ten_words]
  kernel_rfl

attribute [local go_sem] eq_four in
set_option maxRecDepth 100000 in
set_option maxHeartbeats 1000000 in
theorem recordsFixed_calls (w : World) (hv : Vs w) :
    Calls Tryd.prog 10 #[] w fun e w' => e = .returned (.bool true) ∧ Below w.heap.size w w' := by
  have HV : Hid (Vs w) := hv
  clear hv
  have H1 : Hid (Calls Tryd.prog 32 #[.string ⟨#[87, 101, 98, 45, 49]⟩] w fun e w' => e = .returned (.tuple #[.string ⟨#[119, 101, 98, 45, 49]⟩, .int .i64 0]) ∧ Below w.heap.size w w') := by
    have := label_calls web1 w (by decide)
    rw [web1_lab.1, web1_lab.2] at this
    exact this
  have H2 : Hid (∀ w, Vs w → Calls Tryd.prog 33 #[.string ⟨#[49, 48, 46, 48, 46, 48, 46, 50, 53, 53]⟩] w fun e w' => e = .returned (.tuple #[.agg #[.int .u8 10, .int .u8 0, .int .u8 0, .int .u8 255], .int .i64 0]) ∧ Below w.heap.size w w') := fun w hv => by
    have := addr_calls ten255 w (by decide) hv
    rw [ten_adr] at this
    exact this
  go_enter Tryd.func10, Tryd.ntmps10
  go_wp2_with fail
  refine H1.out.mono ?_
  rintro e w1 ⟨rfl, hb1⟩
  have HB1 : Hid (Below w.heap.size w w1) := hb1
  clear hb1 H1
  go_wp2_with fail
  refine (H2.out w1 (HV.out.stay HB1.out)).mono ?_
  rintro e w2 ⟨rfl, hb2⟩
  have HB2 : Hid (Below w.heap.size w w2) := HB1.out.trans (hb2.mono HB1.out.size)
  clear hb2 H2
  go_wp2
  go_ret
  exact ⟨rfl, HB2.out.alloc HB2.out.size _⟩
end Go.Proofs.YtgjcchafmcccjaaDoor

/- Boxes: a value's cells in a block of their own; a result that lies in one. -/
namespace Go.Proofs.YtgjcchafmcccjaaDoor
open Go.RowKit
set_option linter.unusedVariables false

def Blk (w : World) (b : Nat) (cs : Array Value) (T : TypeId) : Prop := w.heap[b]? = some (.cells cs T)
theorem Blk.lt {w : World} {b : Nat} {cs : Array Value} {T : TypeId} (h : Blk w b cs T) : b < w.heap.size := (Array.getElem?_eq_some_iff.1 h).1
theorem Blk.below {w w' : World} {b : Nat} {cs : Array Value} {T : TypeId} (h : Blk w b cs T) (hb : Below w.heap.size w w') : Blk w' b cs T := (hb.block _ h.lt).trans h
theorem Blk.alloc {w : World} {b : Nat} {cs : Array Value} {T : TypeId} (h : Blk w b cs T) (o : Obj) : Blk (w.alloc o) b cs T := h.below ((Below.refl _ _).alloc (Nat.le_refl _) _)
theorem Blk.cell {w : World} {b : Nat} {cs : Array Value} {T : TypeId} (h : Blk w b cs T) (i : Nat) {v : Value} (hv : cs[i]? = some v) : w.cell? ⟨b, i, none⟩ = some v := (cell_of_row _ _ _ _ _ _ h).trans hv
theorem Blk.open {w : World} {b : Nat} {cs : Array Value} {T : TypeId} (h : Blk w b cs T) (i : Nat) : w.frozen? ⟨b, i, none⟩ = false := by
  have h' : w.heap[b]? = some (.cells cs T) := h
  simp [World.frozen?, h']
theorem Blk.new (w : World) (cs : Array Value) (T : TypeId) : Blk (w.alloc (.cells cs T)) w.heap.size cs T := by
  show (w.heap.push _)[w.heap.size]? = _
  rw [Array.getElem?_push, if_pos rfl]
theorem size_new (w : World) (o : Obj) : (w.alloc o).heap.size = w.heap.size + 1 := by
  show (w.heap.push _).size = _
  rw [Array.size_push]
theorem below_new (w : World) (o : Obj) : Below w.heap.size w (w.alloc o) := (Below.refl _ _).alloc (Nat.le_refl _) _
theorem below_undrew {w w' : World} (h : Below w.drew.heap.size w.drew w') : Below w.heap.size w w' := ⟨h.os, h.tape, h.output, h.size, h.block⟩
/-- Values stored one behind the other. -/
def putC (w : World) (g : Nat) : Nat → List Value → World
  | _, [] => w
  | i, v :: l => putC (w.setCell ⟨g, i, none⟩ v) g (i + 1) l
theorem putC_row {g : Nat} {T : TypeId} : ∀ (l : List Value) (w : World) (i : Nat) (cs : Array Value), Blk w g cs T → i + l.length = cs.size → Blk (putC w g i l) g (cs.toList.take i ++ l).toArray T
  | [], w, i, cs, h, hl => by
    have e : (cs.toList.take i ++ []).toArray = cs := by
      rw [List.append_nil, List.take_of_length_le (by rw [Array.length_toList]; simp at hl; omega)]
    rw [e]
    exact h
  | v :: l, w, i, cs, h, hl => by
    simp only [List.length_cons] at hl
    have h1 : Blk (w.setCell ⟨g, i, none⟩ v) g (cs.setIfInBounds i v) T := Lib.heap_setCell_same h v
    have h2 := putC_row l (w.setCell ⟨g, i, none⟩ v) (i + 1) (cs.setIfInBounds i v) h1 (by rw [Array.size_setIfInBounds]; omega)
    have e : (cs.setIfInBounds i v).toList.take (i + 1) ++ l = cs.toList.take i ++ v :: l := by
      rw [Array.toList_setIfInBounds, List.take_succ_eq_append_getElem (by rw [List.length_set, Array.length_toList]; omega), List.take_set_of_le (Nat.le_refl _)]
      simp
    rw [e] at h2
    exact h2
theorem putC_all {g : Nat} {T : TypeId} {l : List Value} {w : World} {cs : Array Value} (h : Blk w g cs T) (hl : l.length = cs.size) : Blk (putC w g 0 l) g l.toArray T := by
  have := putC_row l w 0 cs h (by omega)
  simpa using this
theorem putC_below {B g : Nat} {a : World} : ∀ (l : List Value) (w : World) (i : Nat), Below B a w → B ≤ g → Below B a (putC w g i l)
  | [], _, _, h, _ => h
  | v :: l, w, i, h, hg => putC_below l _ _ (h.setCell (p := ⟨g, i, none⟩) hg v) hg
theorem putC_other {g b : Nat} {T : TypeId} {cs : Array Value} (hne : b ≠ g) : ∀ (l : List Value) (w : World) (i : Nat), Blk w b cs T → Blk (putC w g i l) b cs T
  | [], _, _, h => h
  | v :: l, w, i, h => putC_other hne l _ _ (by
    show (w.setCell _ _).heap[b]? = _
    rw [heap_setCell_other _ _ _ _ (by exact hne)]
    exact h)
theorem putC_cell {g b i : Nat} {v : Value} (hne : b ≠ g) : ∀ (l : List Value) (w : World) (k : Nat), w.cell? ⟨b, i, none⟩ = some v → (putC w g k l).cell? ⟨b, i, none⟩ = some v
  | [], _, _, h => h
  | x :: l, w, k, h => putC_cell hne l _ _ (by rw [World.cell?_setCell_other _ _ _ _ (fun e => by injection e with e; exact hne e.symm)]; exact h)
theorem putC_size {g : Nat} : ∀ (l : List Value) (w : World) (i : Nat), (putC w g i l).heap.size = w.heap.size
  | [], _, _ => rfl
  | v :: l, w, i => (putC_size l _ _).trans (World.size_setCell ..)
/-- The end of a function whose first result lies in a box, the second in a slot. -/
theorem ret_box {fn : Func} {R : Ending → World → Prop} {a : Act} {w : World} {g : Nat} {cs : Array Value} {e : Value} {T : TypeId} (hres : fn.results = #[.cell 2 T, .tmp 3]) (ht : a.tmps.getD 2 undef = .pointer (some ⟨g, 0, none⟩)) (h3 : a.tmps.getD 3 undef = e) (hd : a.defers = [])
    (hl : (loadVar T ⟨g, 0, none⟩).run Tryd.prog w = .ok (.agg cs) w) (hR : R (.returned (.tuple #[.agg cs, e])) w) : bodyPost Tryd.prog fn R .ret a w := by
  refine bodyPost_ret ((results_cell_tmp hres _ _ _).trans ?_) hd hR
  rw [ht, h3]
  simp only [asAddr, Sem.run_pure, Result.andThen, hl]
theorem ret_agg {x y : Array Value} {e f : Int} (h : x = y) (h2 : e = f) : Ending.returned (.tuple #[.agg x, .int .i64 e]) = .returned (.tuple #[.agg y, .int .i64 f]) := by rw [h, h2]
end Go.Proofs.YtgjcchafmcccjaaDoor

/- Layer 9 (records): firstError, fixId, fixSpokenFor, portError, statusError, noteError, strings.Clone. -/
namespace Go.Proofs.YtgjcchafmcccjaaDoor
open Go.RowKit
set_option linter.unusedVariables false

theorem ret_intR {a b : Int} (h : a = b) : Ending.returned (.int .i64 a) = .returned (.int .i64 b) := by rw [h]
theorem ret_tr {a a' b b' : ByteArray} {e e' : Int} (h1 : a = a') (h2 : b = b') (h3 : e = e') : Ending.returned (.tuple #[.string a, .string b, .int .i64 e]) = .returned (.tuple #[.string a', .string b', .int .i64 e']) := by rw [h1, h2, h3]
def orE (a b : Int) : Int := if a = 0 then b else a
def firstE : List Int → Int
  | [] => 0
  | e :: l => orE e (firstE l)
theorem firstE_zero {l : List Int} {k : Nat} (h : ∀ j (hj : j < l.length), j < k → l[j] = 0) : firstE (l.drop k) = firstE l := by
  induction k generalizing l with
  | zero => simp
  | succ k ih =>
    cases l with
    | nil => simp
    | cons e l =>
      have h0 : e = 0 := h 0 (by simp) (by omega)
      rw [List.drop_succ_cons, ih (fun j hj hk => h (j + 1) (by simp; omega) (by omega)), firstE, h0]
      simp [orE]

set_option maxHeartbeats 1000000 in
theorem firstError_calls (g : Nat) (l : List Int) (c : Nat) (w : World) (hl : l.length ≤ 1000) (hc : ∀ j (h : j < l.length), w.cell? ⟨g, j, none⟩ = some (.int .i64 l[j])) :
    Calls Tryd.prog 62 #[.slice (some ⟨g, 0, none⟩) l.length c] w fun e w' => e = .returned (.int .i64 (firstE l)) ∧ w' = w := by
  have HC : Hid (∀ j (h : j < l.length), w.cell? ⟨g, j, none⟩ = some (.int .i64 l[j])) := hc
  clear hc
  go_enter Tryd.func62, Tryd.ntmps62
  go_wp2
  go_loop [7] (fun x => ∃ k : Nat, k ≤ l.length ∧ x = .int .i64 k ∧ Hid (∀ j (hj : j < l.length), j < k → l[j] = 0)) (fun x => l.length - (intOf x).toNat)
  case atStart => exact ⟨0, Nat.zero_le _, rfl, fun j _ h => by omega⟩
  case round =>
    obtain ⟨k, hk, rfl, HZ⟩ := hrel
    by_cases hlt : k < l.length
    · have c0 := HC.out k hlt
      obtain ⟨e, He⟩ : ∃ e, Hid (e = l[k]) := ⟨l[k], rfl⟩
      rw [← He.out] at c0
      by_cases h0 : e = 0
      · have HN : Hid (∀ j (hj : j < l.length), j < k + 1 → l[j] = 0) := fun j hj hjk => by
          rcases Nat.lt_or_ge j k with h' | h'
          · exact HZ.out j hj h'
          · obtain rfl : j = k := by omega
            rw [← He.out]; exact h0
        subst h0
        go_wp2
        go_round
        case rel => exact ⟨k + 1, by omega, by go_num, HN⟩
        case measure => simp [intOf]; omega
      · have HE : Hid (e = firstE l) := by
          rw [Hid, ← firstE_zero HZ.out, List.drop_eq_getElem_cons hlt, firstE, orE, ← He.out, if_neg h0]
        have q : (e != 0) = true := by simpa using h0
        go_wp2
        go_ret
        exact ⟨ret_intR HE.out, rfl⟩
    · obtain rfl : k = l.length := by omega
      have HE : Hid (0 = firstE l) := by rw [Hid, ← firstE_zero HZ.out]; simp [firstE]
      go_wp2
      go_ret
      exact ⟨ret_intR HE.out, rfl⟩
theorem new_ints {w : World} {T : TypeId} {l : List Int} {cs : Array Value} (h : cs = (l.map (Value.int .i64)).toArray) : ∀ j (hj : j < l.length), (w.alloc (.cells cs T)).cell? ⟨w.heap.size, j, none⟩ = some (.int .i64 l[j]) := fun j hj => by
  rw [World.cell?_alloc_new, h]
  simp [hj]
theorem first2_calls (a b : Int) (g : Nat) (w : World) (hg : g = w.heap.size) : Calls Tryd.prog 62 #[.slice (some ⟨g, 0, none⟩) 2 2] (w.alloc (.cells #[.int .i64 a, .int .i64 b] 28)) fun e w' => e = .returned (.int .i64 (orE a b)) ∧ w' = w.alloc (.cells #[.int .i64 a, .int .i64 b] 28) := by
  subst hg
  have h := firstError_calls w.heap.size [a, b] 2 (w.alloc (.cells #[.int .i64 a, .int .i64 b] 28)) (by simp) (new_ints rfl)
  have e : firstE [a, b] = orE a b := by
    simp only [firstE, orE]
    by_cases hb : b = 0
    · simp [hb]
    · simp [hb]
  rw [e] at h
  exact h
theorem first4_calls (a b c d : Int) (g : Nat) (w : World) (hg : g = w.heap.size) : Calls Tryd.prog 62 #[.slice (some ⟨g, 0, none⟩) 4 4] (w.alloc (.cells #[.int .i64 a, .int .i64 b, .int .i64 c, .int .i64 d] 28)) fun e w' => e = .returned (.int .i64 (firstE [a, b, c, d])) ∧ w' = w.alloc (.cells #[.int .i64 a, .int .i64 b, .int .i64 c, .int .i64 d] 28) := by
  subst hg
  exact firstError_calls w.heap.size [a, b, c, d] 4 (w.alloc (.cells #[.int .i64 a, .int .i64 b, .int .i64 c, .int .i64 d] 28)) (by simp) (new_ints rfl)

theorem first4D_calls (a b c d : Int) (g : Nat) (w : World) (hg : g = w.heap.size) : Calls Tryd.prog 62 #[.slice (some ⟨g, 0, none⟩) 4 4] (w.alloc (.cells #[.int .i64 a, .int .i64 b, .int .i64 c, .int .i64 d] 28)).drew fun e w' => e = .returned (.int .i64 (firstE [a, b, c, d])) ∧ w' = (w.alloc (.cells #[.int .i64 a, .int .i64 b, .int .i64 c, .int .i64 d] 28)).drew := by
  subst hg
  exact firstError_calls w.heap.size [a, b, c, d] 4 (w.alloc (.cells #[.int .i64 a, .int .i64 b, .int .i64 c, .int .i64 d] 28)).drew (by simp) (new_ints (T := 28) rfl)

/-- What fixId answers. -/
def idE (a b : ByteArray) : Int := orE (labE a) (labE b)
def idT (a b x : ByteArray) : ByteArray := if idE a b = 0 then labT x else ⟨#[]⟩
theorem id_yes {a b : ByteArray} (h : idE a b = 0) (x : ByteArray) : idT a b x = labT x := if_pos h
theorem id_no {a b : ByteArray} (h : ¬ idE a b = 0) (x : ByteArray) : idT a b x = ⟨#[]⟩ := if_neg h
set_option maxHeartbeats 1000000 in
theorem fixId_calls (a b : ByteArray) (w : World) (ha : a.size ≤ 140737488351296) (hb : b.size ≤ 140737488351296) :
    Calls Tryd.prog 37 #[.string a, .string b] w fun e w' => e = .returned (.tuple #[.string (idT a b a), .string (idT a b b), .int .i64 (idE a b)]) ∧ Below w.heap.size w w' := by
  obtain ⟨ie, Hie⟩ : ∃ ie, Hid (ie = idE a b) := ⟨_, rfl⟩
  have HY : Hid (ie = 0 → idT a b a = labT a ∧ idT a b b = labT b) := fun h => ⟨id_yes (by rw [← Hie.out]; exact h) a, id_yes (by rw [← Hie.out]; exact h) b⟩
  have HN : Hid (¬ ie = 0 → idT a b a = ⟨#[]⟩ ∧ idT a b b = ⟨#[]⟩) := fun h => ⟨id_no (by rw [← Hie.out]; exact h) a, id_no (by rw [← Hie.out]; exact h) b⟩
  rw [← Hie.out]
  go_enter Tryd.func37, Tryd.ntmps37
  go_wp2_with fail
  refine (label_calls a w ha).mono ?_
  rintro e w1 ⟨rfl, hb1⟩
  have HB1 : Hid (Below w.heap.size w w1) := hb1
  clear hb1
  go_wp2_with fail
  refine (label_calls b w1 hb).mono ?_
  rintro e w2 ⟨rfl, hb2⟩
  have HB2 : Hid (Below w.heap.size w w2) := HB1.out.trans (hb2.mono HB1.out.size)
  clear hb2
  go_wp2_with fail
  refine (first2_calls (labE a) (labE b) _ w2 rfl).mono ?_
  rintro e w3 ⟨he, hw3⟩
  rw [show orE (labE a) (labE b) = ie from Hie.out.symm] at he
  subst he
  have HB3 : Hid (Below w.heap.size w w3) := by rw [hw3]; exact HB2.out.alloc HB2.out.size _
  clear hw3 Hie
  by_cases h0 : ie = 0
  · have h12 : Hid (idT a b a = labT a ∧ idT a b b = labT b) := HY.out h0
    have h3 : Hid (ie = 0) := h0
    have q : (ie != 0) = false := by simpa using h0
    clear HY HN
    go_wp2
    go_ret3
    exact ⟨ret_tr h12.out.1.symm h12.out.2.symm h3.out.symm, HB3.out⟩
  · have h12 : Hid (idT a b a = ⟨#[]⟩ ∧ idT a b b = ⟨#[]⟩) := HN.out h0
    clear HY HN
    have q : (ie != 0) = true := by simpa using h0
    go_wp2
    go_ret3
    exact ⟨ret_tr h12.out.1.symm h12.out.2.symm rfl, HB3.out⟩

/-- What fixSpokenFor answers. -/
def spE (s : ByteArray) : Int := if s.size = 0 then 0 else labE s
def spT (s : ByteArray) : ByteArray := if s.size = 0 then ⟨#[]⟩ else labT s
theorem fixSpokenFor_calls (s : ByteArray) (w : World) (hs : s.size ≤ 140737488351296) :
    Calls Tryd.prog 65 #[.string s] w fun e w' => e = .returned (.tuple #[.string (spT s), .int .i64 (spE s)]) ∧ Below w.heap.size w w' := by
  by_cases he : s.toList = []
  · have h0 : s.size = 0 := by rw [ByteArray.toList_eq] at he; simpa using congrArg List.length he
    have HE : Hid (spT s = ⟨#[]⟩ ∧ spE s = 0) := by unfold spT spE; rw [Hid, if_pos h0, if_pos h0]; exact ⟨rfl, rfl⟩
    clear h0
    go_enter Tryd.func65, Tryd.ntmps65
    go_wp2
    go_ret2
    exact ⟨ret_pairS HE.out.1.symm HE.out.2.symm, Below.refl _ _⟩
  · have h0 := lab_size_pos he
    have hemp : s.toList.isEmpty = false := by simpa using he
    have HE : Hid (spT s = labT s ∧ spE s = labE s) := by unfold spT spE; rw [Hid, if_neg (by omega), if_neg (by omega)]; exact ⟨rfl, rfl⟩
    clear h0
    go_enter Tryd.func65, Tryd.ntmps65
    go_wp2_with fail
    refine (label_calls s w hs).mono ?_
    rintro e w1 ⟨rfl, hb1⟩
    have HB1 : Hid (Below w.heap.size w w1) := hb1
    clear hb1
    go_wp2
    go_ret2
    exact ⟨ret_pairS HE.out.1.symm HE.out.2.symm, HB1.out⟩

def portE (p : Int) : Int := if p < 1 ∨ 65535 < p then 92 else 0
theorem portError_calls (p : Int) (w : World) : Calls Tryd.prog 64 #[.int .i64 p] w fun e w' => e = .returned (.int .i64 (portE p)) ∧ w' = w := by
  by_cases h1 : p < 1
  · have HE : Hid (92 = portE p) := by unfold portE; rw [Hid, if_pos (.inl h1)]
    go_enter Tryd.func64, Tryd.ntmps64
    go_wp2
    go_ret
    exact ⟨ret_intR HE.out, rfl⟩
  · by_cases h2 : 65535 < p
    · have HE : Hid (92 = portE p) := by unfold portE; rw [Hid, if_pos (.inr h2)]
      go_enter Tryd.func64, Tryd.ntmps64
      go_wp2
      go_ret
      exact ⟨ret_intR HE.out, rfl⟩
    · have HE : Hid (0 = portE p) := by unfold portE; rw [Hid, if_neg (by omega)]
      go_enter Tryd.func64, Tryd.ntmps64
      go_wp2
      go_ret
      exact ⟨ret_intR HE.out, rfl⟩
def statE (p : Int) : Int := if p = 1 ∨ p = 2 ∨ p = 3 then 0 else 94
theorem statusError_calls (p : Int) (w : World) : Calls Tryd.prog 66 #[.int .i64 p] w fun e w' => e = .returned (.int .i64 (statE p)) ∧ w' = w := by
  by_cases h : p = 1 ∨ p = 2 ∨ p = 3
  · have HE : Hid (0 = statE p) := by unfold statE; rw [Hid, if_pos h]
    rcases h with h | h | h
    all_goals
      generalize statE p = r at *
      subst h
      go_enter Tryd.func66, Tryd.ntmps66
      go_wp2
      go_ret
      exact ⟨ret_intR HE.out, rfl⟩
  · have HE : Hid (94 = statE p) := by unfold statE; rw [Hid, if_neg h]
    have q1 : (p == 1) = false := by simp; omega
    have q2 : (p == 2) = false := by simp; omega
    have q3 : (p == 3) = false := by simp; omega
    clear h
    go_enter Tryd.func66, Tryd.ntmps66
    go_wp2
    go_ret
    exact ⟨ret_intR HE.out, rfl⟩
def noteTo (s : ByteArray) (k : Nat) : Prop := ∀ i (h : i < s.size), i < k → 32 ≤ s[i].toNat ∧ s[i].toNat ≤ 126
instance (s : ByteArray) (k : Nat) : Decidable (noteTo s k) := by unfold noteTo; infer_instance
def noteE (s : ByteArray) : Int := if s.size ≤ 200 ∧ noteTo s s.size then 0 else 95
theorem note_long {s : ByteArray} (h : ¬ s.size ≤ 200) : noteE s = 95 := if_neg fun e => h e.1
theorem note_bad {s : ByteArray} {k : Nat} (hk : k < s.size) (h : ¬ (32 ≤ s[k].toNat ∧ s[k].toNat ≤ 126)) : noteE s = 95 := if_neg fun e => h (e.2 k hk hk)
theorem noteTo.next {s : ByteArray} {k : Nat} (h : noteTo s k) (hk : k < s.size) (hv : 32 ≤ s[k].toNat ∧ s[k].toNat ≤ 126) : noteTo s (k + 1) := fun i hi hik => by
  rcases Nat.lt_or_ge i k with h' | h'
  · exact h i hi h'
  · obtain rfl : i = k := by omega
    exact hv
set_option maxHeartbeats 1000000 in
theorem noteError_calls (s : ByteArray) (w : World) (hs : s.size ≤ 140737488351296) : Calls Tryd.prog 67 #[.string s] w fun e w' => e = .returned (.int .i64 (noteE s)) ∧ w' = w := by
  by_cases hl : s.size ≤ 200
  case neg =>
    have HE : Hid (95 = noteE s) := (note_long hl).symm
    have q : (200 : Int) < (s.size : Int) := by omega
    go_enter Tryd.func67, Tryd.ntmps67
    go_wp2
    go_ret
    exact ⟨ret_intR HE.out, rfl⟩
  have q : ¬ (200 : Int) < (s.size : Int) := by omega
  go_enter Tryd.func67, Tryd.ntmps67
  go_wp2
  go_loop [9] (fun x => ∃ k : Nat, k ≤ s.size ∧ x = .int .i64 k ∧ Hid (noteTo s k)) (fun x => s.size - (intOf x).toNat)
  case atStart => exact ⟨0, Nat.zero_le _, rfl, fun i h h' => by omega⟩
  case round =>
    obtain ⟨k, hk, rfl, HK⟩ := hrel
    by_cases hlt : k < s.size
    · by_cases h32 : 32 ≤ s[k].toNat
      · have p1 : ¬ (s[k].toNat : Int) < 32 := by omega
        by_cases h126 : s[k].toNat ≤ 126
        · have p2 : ¬ (126 : Int) < (s[k].toNat : Int) := by omega
          have HN : Hid (noteTo s (k + 1)) := HK.out.next hlt ⟨h32, h126⟩
          go_wp2
          go_round
          case rel => exact ⟨k + 1, by omega, by go_num, HN⟩
          case measure => simp [intOf]; omega
        · have p2 : (126 : Int) < (s[k].toNat : Int) := by omega
          have HE : Hid (95 = noteE s) := (note_bad hlt (by omega)).symm
          go_wp2
          go_ret
          exact ⟨ret_intR HE.out, rfl⟩
      · have p1 : (s[k].toNat : Int) < 32 := by omega
        have HE : Hid (95 = noteE s) := (note_bad hlt (by omega)).symm
        go_wp2
        go_ret
        exact ⟨ret_intR HE.out, rfl⟩
    · obtain rfl : k = s.size := by omega
      have HE : Hid (0 = noteE s) := (if_pos (⟨hl, HK.out⟩ : s.size ≤ 200 ∧ noteTo s s.size)).symm
      go_wp2
      go_ret
      exact ⟨ret_intR HE.out, rfl⟩
theorem rclone_calls (s : ByteArray) (w : World) (hs : s.size ≤ 140737488351296) : Calls Tryd.prog 55 #[.string s] w fun e w' => e = .returned (.string s) ∧ Below w.heap.size w w' := by
  have HC := Tryd.stringslite_Clone s w (by omega)
  go_enter Tryd.func55, Tryd.ntmps55
  go_wp2_with fail
  refine HC.mono ?_
  rintro e w1 ⟨rfl, hb1⟩
  have HB1 : Hid (Below w.heap.size w w1) := hb1
  clear hb1 HC
  go_wp2
  go_ret
  exact ⟨rfl, HB1.out⟩
end Go.Proofs.YtgjcchafmcccjaaDoor
