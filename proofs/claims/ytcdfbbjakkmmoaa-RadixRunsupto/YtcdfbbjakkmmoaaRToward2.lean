import Derived.Test.YtcdfbbjakkmmoaaRTree
import Derived.Deep.QuietTactic
import Derived.BigQuiet
/- Layer 3 (radix): trees in memory; newNode, newValue, get. -/
namespace Go.Proofs.Ytcdfbbjakkmmoaa
open Go.RowKit
set_option linter.unusedVariables false
/-- What is held of a tree besides its shape: blocks that no array of kids lies in; watches that may be fired. -/
structure Rg where
  box : Nat → Prop
  old : Nat → Prop
instance : CoeFun Rg (fun _ => Nat → Prop) := ⟨Rg.box⟩
variable {R : Rg} {O : Nat → Prop}

def vptr : Option Vl → Option Addr
  | none => none
  | some v => some ⟨v.a, 0, none⟩

/-- A watch in memory; its channel was made right ahead of it: so no two watches have one channel. -/
def Wc (O : Nat → Prop) (w : World) (g : Nat) : Prop := ∃ f, WAt w g (g - 1) f ∧ (f = true → O g)
theorem Wc.below {w w' : World} {g : Nat} (h : Wc O w g) (hb : Below w.heap.size w w') : Wc O w' g := by
  obtain ⟨f, h, ho⟩ := h
  exact ⟨f, h.below hb, ho⟩
theorem WAt.wc {w : World} {c : Nat} (h : WAt w (c + 1) c false) : Wc O w (c + 1) := ⟨false, h, fun e => by cases e⟩
/-- A store into cells that are no watch's leaves a watch. -/
theorem WAt.aside {w : World} {g c nb i : Nat} {f : Bool} {cs : Array Value} {ty : TypeId} (h : WAt w g c f) (hb : w.heap[nb]? = some (.cells cs ty)) (ht : ty ≠ 117) (v : Value) : WAt (w.setCell ⟨nb, i, none⟩ v) g c f := by
  refine ⟨(heap_setCell_other _ _ _ _ (fun e => ?_)).trans h.blk, (heap_setCell_other _ _ _ _ (fun e => ?_)).trans h.chn⟩
  · have e' : g = nb := e
    subst e'
    have := hb.symm.trans h.blk
    simp at this
    exact ht this.2
  · have e' : c = nb := e
    subst e'
    have := hb.symm.trans h.chn
    cases this

/-- The value v lies in memory. -/
structure VAt (O : Nat → Prop) (w : World) (v : Vl) : Prop where
  blk : w.heap[v.a]? = some (.cells #[v.x, .pointer (some ⟨v.g, 0, none⟩)] 97)
  wat : Wc O w v.g
  num : ∃ n : Int, v.x = .int .i64 n

/-- Pointers to the nodes lie one behind the other, in no block of R. -/
def KidsAt (R : Rg) (w : World) (ao : Option Addr) (ks : List Tr) : Prop :=
  ∀ i (h : i < ks.length), ∃ b off, ao = some ⟨b, off, none⟩ ∧ w.cell? ⟨b, off + i, none⟩ = some (.pointer (some ⟨ks[i].a, 0, none⟩)) ∧ ¬ R b

/-- The tree lies in memory. -/
inductive TAt (R : Rg) (w : World) : Tr → Prop
  | mk {a p v ks g ao cap} (blk : w.heap[a]? = some (.cells #[.string p, .pointer (vptr v), .slice ao ks.length cap, .pointer (some ⟨g, 0, none⟩)] 76))
      (kids : KidsAt R w ao ks) (val : ∀ x, v = some x → VAt R.old w x) (wat : Wc R.old w g) (sub : ∀ t ∈ ks, TAt R w t) (room : ks.length ≤ cap) (nil : ao = none → cap = 0) (psz : p.size ≤ 140737488351296) : TAt R w (.nd a p v ks g)

theorem VAt.below {w w' : World} {v : Vl} (h : VAt O w v) (hb : Below w.heap.size w w') : VAt O w' v := by
  exact ⟨(hb.block _ (lt_of_heap h.blk)).trans h.blk, h.wat.below hb, h.num⟩
theorem KidsAt.below {w w' : World} {ao : Option Addr} {ks : List Tr} (h : KidsAt R w ao ks) (hb : Below w.heap.size w w') : KidsAt R w' ao ks := by
  intro i hi
  obtain ⟨b, off, ha, h0, hr⟩ := h i hi
  have hl : b < w.heap.size := World.block_lt_of_cell? w _ h0
  exact ⟨b, off, ha, by rw [hb.cell (by exact hl)]; exact h0, hr⟩
theorem TAt.keep {w w' : World} {t : Tr} (h : TAt R w t) (hb : Below w.heap.size w w') : TAt R w' t := by
  induction h with
  | mk blk kids val wat sub room nil psz ih =>
    exact .mk ((hb.block _ (lt_of_heap blk)).trans blk) (kids.below hb) (fun x hx => (val x hx).below hb) (wat.below hb) ih room nil psz
/-- Blocks that are not there yet can be kept free, too. -/
theorem TAt.avoid {R' : Nat → Prop} {w : World} {t : Tr} (h : TAt R w t) (hR : ∀ b, R' b → w.heap.size ≤ b) : TAt ⟨R', R.old⟩ w t := by
  induction h with
  | mk blk kids val wat sub room nil psz ih =>
    refine .mk blk (fun i hi => ?_) val wat ih room nil psz
    obtain ⟨b, off, ha, h0, _⟩ := kids i hi
    have hl : b < w.heap.size := World.block_lt_of_cell? w _ h0
    exact ⟨b, off, ha, h0, fun hc => by have := hR b hc; omega⟩
/-- A store into a block of R that is no node's, no value's and no watch's leaves the tree as it is. -/
theorem TAt.poke {w : World} {t : Tr} {nb i : Nat} {cs : Array Value} {ty : TypeId} (h : TAt R w t) (hR : R nb) (hb : w.heap[nb]? = some (.cells cs ty)) (h1 : ty ≠ 76) (h2 : ty ≠ 97) (h3 : ty ≠ 117) (v : Value) : TAt R (w.setCell ⟨nb, i, none⟩ v) t := by
  have hne : ∀ {a : Nat} {ds : Array Value} {ty' : TypeId}, w.heap[a]? = some (.cells ds ty') → ty ≠ ty' → (w.setCell ⟨nb, i, none⟩ v).heap[a]? = w.heap[a]? := fun ha ht => heap_setCell_other _ _ _ _ (fun e => by
    have e' : _ = nb := e
    subst e'
    have := hb.symm.trans ha
    simp at this
    exact ht this.2)
  have hwc : ∀ {g : Nat}, Wc R.old w g → Wc R.old (w.setCell ⟨nb, i, none⟩ v) g := fun hg => by
    obtain ⟨f, hg, ho⟩ := hg
    exact ⟨f, hg.aside hb h3 v, ho⟩
  induction h with
  | mk blk kids val wat sub room nil psz ih =>
    refine .mk ((hne blk h1).trans blk) (fun j hj => ?_) (fun x hx => ?_) (hwc wat) ih room nil psz
    · obtain ⟨b, off, ha, h0, hr⟩ := kids j hj
      have hnb : b ≠ nb := fun e => hr (e ▸ hR)
      exact ⟨b, off, ha, by rw [World.cell?_setCell_other _ _ _ _ (fun e => hnb (by simpa using (congrArg Addr.block e).symm))]; exact h0, hr⟩
    · have hx' := val x hx
      exact ⟨(hne hx'.blk h2).trans hx'.blk, hwc hx'.wat, hx'.num⟩
theorem TAt.sub' {w : World} {t : Tr} (h : TAt R w t) : ∀ c ∈ t.ks, TAt R w c := by cases h; assumption
theorem TAt.lt {w : World} {t : Tr} (h : TAt R w t) : t.a < w.heap.size := by cases h with | mk blk _ _ _ _ _ _ _ => exact lt_of_heap blk
theorem TAt.psz' {w : World} {t : Tr} (h : TAt R w t) : t.p.size ≤ 140737488351296 := by cases h; assumption
theorem TAt.val' {w : World} {t : Tr} (h : TAt R w t) : ∀ x, t.v = some x → VAt R.old w x := by cases h; assumption

/-- The cells of a node. -/
theorem TAt.cells {w : World} {t : Tr} (h : TAt R w t) : ∃ ao cap, w.cell? ⟨t.a, 0, none⟩ = some (.string t.p) ∧ w.cell? ⟨t.a, 1, none⟩ = some (.pointer (vptr t.v)) ∧
    w.cell? ⟨t.a, 2, none⟩ = some (.slice ao t.ks.length cap) ∧ w.cell? ⟨t.a, 3, none⟩ = some (.pointer (some ⟨t.g, 0, none⟩)) ∧ KidsAt R w ao t.ks ∧ t.ks.length ≤ cap ∧ (ao = none → cap = 0) := by
  cases h with
  | @mk a p v ks g ao cap blk kids val wat sub room nil psz =>
    exact ⟨ao, cap, by simp only [Tr.a]; rw [cell_of_blk blk]; rfl, by simp only [Tr.a]; rw [cell_of_blk blk]; rfl, by simp only [Tr.a]; rw [cell_of_blk blk]; rfl, by simp only [Tr.a]; rw [cell_of_blk blk]; rfl, kids, room, nil⟩

theorem bytes_le : ∀ (l : List UInt8), l.Pairwise (· < ·) → ∀ i (h : i < l.length), i ≤ l[i].toNat := by
  intro l hl i
  induction i with
  | zero => intro h; omega
  | succ i ih =>
    intro h
    have h1 := ih (by omega)
    have h2 := List.pairwise_iff_getElem.1 hl i (i + 1) (by omega) h (by omega)
    have := UInt8.lt_iff_toNat_lt.1 h2
    omega
theorem WF.few {t : Tr} (h : WF t) : t.ks.length ≤ 256 := by
  rcases Nat.lt_or_ge 256 t.ks.length with hc | hc
  · have := bytes_le _ h.ord' 256 (by simpa using hc)
    have h2 := UInt8.toNat_lt ((t.ks.map (Tr.byte t.p.size))[256]'(by simpa using hc))
    omega
  · exact hc

/-! ### newNode, newValue, get -/

theorem newNode_calls (p : ByteArray) (po : Option Addr) (ao : Option Addr) (n cap : Nat) (w : World) :
    Calls Try.prog 30 #[.string p, .pointer po, .slice ao n cap] w fun e w' => e = .returned (.pointer (some ⟨w.heap.size + 2, 0, none⟩)) ∧ Below w.heap.size w w' ∧ w'.heap.size = w.heap.size + 3 ∧
      w'.heap[w.heap.size + 2]? = some (.cells #[.string p, .pointer po, .slice ao n cap, .pointer (some ⟨w.heap.size + 1, 0, none⟩)] 76) ∧ WAt w' (w.heap.size + 1) w.heap.size false := by
  go_enter Try.func30, Try.ntmps30
  go_wp2_with fail
  refine (new_calls w).mono ?_
  rintro e w1 ⟨rfl, hb1, hs1, hw1⟩
  go_wp2
  go_ret
  have hb2 : Below w1.heap.size w1 (w1.alloc (.cells #[.string p, .pointer po, .slice ao n cap, .pointer (some ⟨w.heap.size + 1, 0, none⟩)] 76)) := (Below.refl _ w1).alloc (Nat.le_refl _) _
  refine ⟨rfl, hb1.trans (hb2.mono hb1.size), by simp [World.size_alloc, hs1], ?_, hw1.below hb2⟩
  have := heap_alloc_new w1 (.cells #[.string p, .pointer po, .slice ao n cap, .pointer (some ⟨w.heap.size + 1, 0, none⟩)] 76)
  rw [hs1] at this
  exact this

theorem newValue_calls (n : Int) (w : World) :
    Calls Try.prog 46 #[.int .i64 n] w fun e w' => e = .returned (.pointer (some ⟨w.heap.size + 2, 0, none⟩)) ∧ Below w.heap.size w w' ∧ w'.heap.size = w.heap.size + 3 ∧ VAt O w' ⟨w.heap.size + 2, .int .i64 n, w.heap.size + 1⟩ := by
  go_enter Try.func46, Try.ntmps46
  go_wp2_with fail
  refine (new_calls w).mono ?_
  rintro e w1 ⟨rfl, hb1, hs1, hw1⟩
  go_wp2
  go_ret
  have hb2 : Below w1.heap.size w1 (w1.alloc (.cells #[.int .i64 n, .pointer (some ⟨w.heap.size + 1, 0, none⟩)] 97)) := (Below.refl _ w1).alloc (Nat.le_refl _) _
  refine ⟨rfl, hb1.trans (hb2.mono hb1.size), by simp [World.size_alloc, hs1], ?_, (hw1.below hb2).wc, ⟨n, rfl⟩⟩
  have := heap_alloc_new w1 (.cells #[.int .i64 n, .pointer (some ⟨w.heap.size + 1, 0, none⟩)] 97)
  rw [hs1] at this
  exact this

/-- What a value pointer holds. -/
def held : Option Vl → Value
  | none => .int .i64 0
  | some v => v.x

theorem get_calls (v : Option Vl) (w : World) (hv : ∀ x, v = some x → VAt O w x) :
    Calls Try.prog 29 #[.pointer (vptr v)] w fun e w' => e = .returned (.tuple #[held v, .bool v.isSome]) ∧ w' = w := by
  cases v with
  | none =>
    simp only [vptr, held]
    go_enter Try.func29, Try.ntmps29
    go_wp2
    go_ret2
    exact ⟨rfl, rfl⟩
  | some x =>
    have h := hv x rfl
    obtain ⟨n, hn⟩ := h.num
    have c0 : w.cell? ⟨x.a, 0, none⟩ = some (.int .i64 n) := by rw [cell_of_blk h.blk, hn]; rfl
    simp only [vptr, held, hn]
    clear h hv hn
    go_enter Try.func29, Try.ntmps29
    go_wp2
    go_ret2
    exact ⟨rfl, rfl⟩
end Go.Proofs.Ytcdfbbjakkmmoaa

/- Layer 3 (radix): the place of a key's next byte among a node's kids. -/
namespace Go.Proofs.Ytcdfbbjakkmmoaa
open Go.RowKit
set_option linter.unusedVariables false
variable {R : Rg} {O : Nat → Prop}

def cmpI (x y : Int) : Int := if x < y then -1 else if y < x then 1 else 0

theorem cmpByte_calls (x y : Int) (w : World) : Calls Try.prog 67 #[.int .u8 x, .int .u8 y] w fun e w' => e = .returned (.int .i64 (cmpI x y)) ∧ w' = w := by
  by_cases h1 : x < y
  · have e : cmpI x y = -1 := by unfold cmpI; rw [if_pos h1]
    rw [e]
    clear e
    go_enter Try.func67, Try.ntmps67
    go_wp2_with (go_at_call 75; go_in)
    go_ret
    exact ⟨rfl, rfl⟩
  by_cases h2 : y < x
  · have e : cmpI x y = 1 := by unfold cmpI; rw [if_neg h1, if_pos h2]
    rw [e]
    clear e
    go_enter Try.func67, Try.ntmps67
    go_wp2_with (go_at_call 75; go_in)
    go_ret
    exact ⟨rfl, rfl⟩
  · have e : cmpI x y = 0 := by unfold cmpI; rw [if_neg h1, if_neg h2]
    rw [e]
    clear e
    go_enter Try.func67, Try.ntmps67
    go_wp2_with (go_at_call 75; go_in)
    go_ret
    exact ⟨rfl, rfl⟩

theorem byte_get (t : Tr) (n : Nat) (h : n < t.p.size) : t.byte n = t.p[n] := by
  unfold Tr.byte Tr.path
  rw [List.getD_eq_getElem?_getD, List.getElem?_eq_getElem (by simpa using h)]
  rfl

theorem towardK_calls (t : Tr) (w : World) (h : TAt R w t) (c : Addr) (n : Nat) (hc : w.cell? c = some (.int .i64 n)) (hn : n < t.p.size) (b : Int) :
    Calls Try.prog 66 #[.pointer (some ⟨t.a, 0, none⟩), .int .u8 b, .pointer (some c)] w fun e w' => e = .returned (.int .i64 (cmpI (t.byte n).toNat b)) ∧ ∃ m, w' = w.drewN m := by
  obtain ⟨ao, cap, c0, -, -, -, -, -⟩ := h.cells
  have hp := h.psz'
  rw [byte_get t n hn]
  clear h
  go_enter Try.func66, Try.ntmps66
  go_wp2
  go_quiet ((go_at_call 67; exact Calls.quiet_of_same (cmpByte_calls _ _ _)))
  go_wp2
  go_ret
  exact ⟨rfl, _, rfl⟩

def thereB (ks : List Tr) (n : Nat) (b : UInt8) : Bool := match ks[posn ks n b]? with
  | some t => t.byte n == b
  | none => false

theorem u8_lt_int {a b : UInt8} : (a.toNat : Int) < (b.toNat : Int) ↔ a < b := by rw [UInt8.lt_iff_toNat_lt]; omega
theorem cmpI_neg {a b : UInt8} : cmpI a.toNat b.toNat < 0 ↔ a < b := by
  rw [← u8_lt_int]
  unfold cmpI
  split
  · simp [*]
  · split <;> simp <;> omega
theorem cmpI_zero {a b : UInt8} : cmpI a.toNat b.toNat = 0 ↔ a = b := by
  have : a = b ↔ a.toNat = b.toNat := UInt8.toNat_inj.symm
  rw [this]
  unfold cmpI
  split
  · simp; omega
  · split <;> simp <;> omega

theorem lt_of_sorted {ks : List Tr} {n : Nat} (h : (ks.map (Tr.byte n)).Pairwise (· < ·)) {i j : Nat} (hij : i < j) (hj : j < ks.length) : ks[i].byte n < ks[j].byte n := by
  have := List.pairwise_iff_getElem.1 h i j (by simp; omega) (by simpa using hj) hij
  simpa using this

set_option maxRecDepth 100000 in
set_option maxHeartbeats 800000 in
theorem search_calls (ks : List Tr) (ao : Option Addr) (cap : Nat) (n : Nat) (b : UInt8) (c : Addr) (w : World) (hk : KidsAt R w ao ks) (hl : ks.length ≤ 256) (ht : ∀ t ∈ ks, TAt R w t) (hn : ∀ t ∈ ks, n < t.p.size)
    (hc : w.cell? c = some (.int .i64 n)) (hs : (ks.map (Tr.byte n)).Pairwise (· < ·)) :
    Calls Try.prog 65 #[.slice ao ks.length cap, .int .u8 (b.toNat : Int), .func (.func 66) #[] #[.pointer (some c)]] w
      fun e w' => e = .returned (.tuple #[.int .i64 (posn ks n b : Int), .bool (thereB ks n b)]) ∧ ∃ m, w' = w.drewN m := by
  have HS : Hid ((ks.map (Tr.byte n)).Pairwise (· < ·)) := hs
  clear hs
  go_enter Try.func65, Try.ntmps65
  go_wp2
  go_loopw [9, 10] (fun x y wr => ∃ i j : Nat, x = .int .i64 i ∧ y = .int .i64 j ∧ i ≤ j ∧ j ≤ ks.length ∧ Hid (∀ q (hq : q < ks.length), q < i → ks[q].byte n < b) ∧ Hid (∀ q (hq : q < ks.length), j ≤ q → b ≤ ks[q].byte n) ∧ Hid (∃ m, wr = w.drewN m)) (fun x y _ => (intOf y).toNat - (intOf x).toNat)
  case atStart => exact ⟨0, ks.length, rfl, rfl, Nat.zero_le _, Nat.le_refl _, fun q hq h => by omega, fun q hq h => by omega, ⟨0, rfl⟩⟩
  case round =>
    obtain ⟨i, j, rfl, rfl, hij, hj, H1, H2, HW⟩ := hrel
    by_cases hlt : i < j
    · have hh : (i + j) / 2 < ks.length := by omega
      obtain ⟨bb, off, rfl, h0, -⟩ := hk _ hh
      have h1 : wr.cell? ⟨bb, off + (i + j) / 2, none⟩ = some (.pointer (some ⟨ks[(i + j) / 2].a, 0, none⟩)) := by obtain ⟨m, rfl⟩ := HW.out; simpa using h0
      have hT : TAt R wr ks[(i + j) / 2] := by obtain ⟨m, rfl⟩ := HW.out; exact (ht _ (List.getElem_mem hh)).keep ⟨rfl, rfl, rfl, Nat.le_refl _, fun _ _ => rfl⟩
      have hcw : wr.cell? c = some (.int .i64 n) := by obtain ⟨m, rfl⟩ := HW.out; simpa using hc
      have HC := towardK_calls _ wr hT c n hcw (hn _ (List.getElem_mem hh)) b.toNat
      clear hT h0 hcw ht hn hk hc
      by_cases hcmp : ks[(i + j) / 2].byte n < b
      · have hneg : cmpI (ks[(i + j) / 2].byte n).toNat b.toNat < 0 := cmpI_neg.2 hcmp
        have HCM : Hid (ks[(i + j) / 2].byte n < b) := hcmp
        clear hcmp
        go_wp2_with fail
        refine HC.mono ?_
        clear HC
        rintro e w1 ⟨rfl, hw1⟩
        have HW1 : Hid (∃ m, w1 = w.drewN m) := by obtain ⟨m, rfl⟩ := HW.out; obtain ⟨m', rfl⟩ := hw1; exact ⟨m + m', by rw [World.drewN_drewN]⟩
        clear hw1 h1
        revert hneg
        generalize cmpI (ks[(i + j) / 2].byte n).toNat b.toNat = z
        intro hneg
        go_wp2
        go_roundw
        case rel => exact ⟨(i + j) / 2 + 1, j, by go_num, rfl, by omega, hj, fun q hq h => by
          rcases Nat.lt_or_ge q ((i + j) / 2) with hq2 | hq2
          · exact UInt8.lt_trans (lt_of_sorted HS.out hq2 hh) HCM.out
          · have : q = (i + j) / 2 := by omega
            subst this; exact HCM.out, H2, HW1⟩
        case measure => simp [intOf]; omega
      · have hneg : ¬ cmpI (ks[(i + j) / 2].byte n).toNat b.toNat < 0 := fun h => hcmp (cmpI_neg.1 h)
        have HCM : Hid (b ≤ ks[(i + j) / 2].byte n) := UInt8.not_lt.1 hcmp
        clear hcmp
        go_wp2_with fail
        refine HC.mono ?_
        clear HC
        rintro e w1 ⟨rfl, hw1⟩
        have HW1 : Hid (∃ m, w1 = w.drewN m) := by obtain ⟨m, rfl⟩ := HW.out; obtain ⟨m', rfl⟩ := hw1; exact ⟨m + m', by rw [World.drewN_drewN]⟩
        clear hw1 h1
        revert hneg
        generalize cmpI (ks[(i + j) / 2].byte n).toNat b.toNat = z
        intro hneg
        go_wp2
        go_roundw
        case rel => exact ⟨i, (i + j) / 2, rfl, by go_num, by omega, by omega, H1, fun q hq h => by
          rcases Nat.lt_or_ge ((i + j) / 2) q with hq2 | hq2
          · exact UInt8.le_of_lt (UInt8.lt_of_le_of_lt HCM.out (lt_of_sorted HS.out hq2 hq))
          · have : q = (i + j) / 2 := by omega
            subst this; exact HCM.out, HW1⟩
        case measure => simp [intOf]; omega
    · have hij' : i = j := by omega
      subst hij'
      have HP : Hid (posn ks n b = i) := posn_eq (by omega) (fun q hq h => H1.out q hq h) (fun h => H2.out i h (Nat.le_refl _))
      by_cases hin : i < ks.length
      · have hd : decide ((i : Int) < (ks.length : Int)) = true := by simpa using hin
        obtain ⟨bb, off, rfl, h0, -⟩ := hk _ hin
        have h1 : wr.cell? ⟨bb, off + i, none⟩ = some (.pointer (some ⟨ks[i].a, 0, none⟩)) := by obtain ⟨m, rfl⟩ := HW.out; simpa using h0
        have hT : TAt R wr ks[i] := by obtain ⟨m, rfl⟩ := HW.out; exact (ht _ (List.getElem_mem hin)).keep ⟨rfl, rfl, rfl, Nat.le_refl _, fun _ _ => rfl⟩
        have hcw : wr.cell? c = some (.int .i64 n) := by obtain ⟨m, rfl⟩ := HW.out; simpa using hc
        have HC := towardK_calls _ wr hT c n hcw (hn _ (List.getElem_mem hin)) b.toNat
        have HTH : Hid (thereB ks n b = (cmpI (ks[i].byte n).toNat b.toNat == 0)) := by
          show thereB ks n b = _
          unfold thereB
          rw [HP.out, List.getElem?_eq_getElem hin]
          rw [Bool.eq_iff_iff]; simp [cmpI_zero]
        clear hT h0 hcw ht hn hk hc
        go_wp2_with fail
        refine HC.mono ?_
        clear HC
        rintro e w1 ⟨rfl, hw1⟩
        have HW1 : Hid (∃ m, w1 = w.drewN m) := by obtain ⟨m, rfl⟩ := HW.out; obtain ⟨m', rfl⟩ := hw1; exact ⟨m + m', by rw [World.drewN_drewN]⟩
        clear hw1 h1
        revert HTH
        generalize cmpI (ks[i].byte n).toNat b.toNat = z
        intro HTH
        go_wp2
        go_ret2
        exact ⟨by rw [HP.out, HTH.out]; rfl, HW1.out⟩
      · have hd : decide ((i : Int) < (ks.length : Int)) = false := by simpa using hin
        have HTH : Hid (thereB ks n b = false) := by
          show thereB ks n b = _
          unfold thereB
          rw [HP.out, List.getElem?_eq_none (by omega)]
        clear ht hn hk hc
        go_wp2
        go_ret2
        exact ⟨by rw [HP.out, HTH.out]; rfl, HW.out⟩
end Go.Proofs.Ytcdfbbjakkmmoaa

/- Layer 3 (radix): toward. -/
namespace Go.Proofs.Ytcdfbbjakkmmoaa
open Go.RowKit
set_option linter.unusedVariables false
variable {R : Rg} {O : Nat → Prop}

theorem toward_end (t : Tr) (k : ByteArray) (w : World) (h : TAt R w t) (hk : k.size = t.p.size) :
    Calls Try.prog 54 #[.pointer (some ⟨t.a, 0, none⟩), .string k] w fun e w' => e = .returned (.tuple #[.int .i64 0, .bool false]) ∧ Below w.heap.size w w' := by
  obtain ⟨ao, cap, c0, -, -, -, -, -⟩ := h.cells
  have hp := h.psz'
  have ha := h.lt
  clear h
  go_enter Try.func54, Try.ntmps54
  go_wp2
  go_ret2
  exact ⟨rfl, by first | exact (Below.refl _ _).alloc (Nat.le_refl _) _ | exact ((Below.refl _ _).alloc (Nat.le_refl _) _).setCell (Nat.le_refl _) _⟩

set_option maxRecDepth 100000 in
theorem toward_at (t : Tr) (k : ByteArray) (w : World) (h : TAt R w t) (hw : WF t) (hk : t.p.size < k.size) (hks : k.size ≤ 140737488351296) :
    Calls Try.prog 54 #[.pointer (some ⟨t.a, 0, none⟩), .string k] w fun e w' =>
      e = .returned (.tuple #[.int .i64 (posn t.ks t.p.size k[t.p.size] : Int), .bool (thereB t.ks t.p.size k[t.p.size])]) ∧ Below w.heap.size w w' := by
  have hmf : ∀ (fn : Fn) (first cap : Array Value) (w : World), (Instr.makeFunc fn first cap).run Try.prog w = .ok (.func fn first cap) w := fun _ _ _ _ => rfl
  obtain ⟨ao, cap, c0, -, c2, -, hkids, -⟩ := h.cells
  have hp := h.psz'
  have ha := h.lt
  have hsub := h.sub'
  have hne : ¬ (k.size : Int) = (t.p.size : Int) := by omega
  have hneb : ((k.size : Int) == (t.p.size : Int)) = false := by simpa using hne
  -- the world behind the box of 'beyond'
  obtain ⟨w1, HW1⟩ : ∃ w1, Hid (w1 = w.alloc (.cells #[.int .i64 (t.p.size : Int)] 3)) := ⟨_, rfl⟩
  have hb1 : Below w.heap.size w w1 := by rw [HW1.out]; exact (Below.refl _ _).alloc (Nat.le_refl _) _
  have hc1 : w1.cell? ⟨w.heap.size, 0, none⟩ = some (.int .i64 (t.p.size : Int)) := by rw [HW1.out, World.cell?_alloc_mark]; rfl
  have hbd : ∀ m, Below w.heap.size w (w1.drewN m) := fun m => ⟨hb1.os, hb1.tape, hb1.output, hb1.size, hb1.block⟩
  have HS := fun m => search_calls t.ks ao cap t.p.size k[t.p.size] ⟨w.heap.size, 0, none⟩ (w1.drewN m) (hkids.below (hbd m)) hw.few (fun c hc => (hsub c hc).keep (hbd m)) (fun c hc => (hw.ext' c hc).2) hc1 hw.ord'
  have c2' : w1.cell? ⟨t.a, 2, none⟩ = some (.slice ao t.ks.length cap) := by rw [hb1.cell (by exact ha)]; exact c2
  have HB1 : Hid (∀ m, Below w.heap.size w (w1.drewN m)) := hbd
  clear h hw hkids hsub hb1 c2 hbd
  go_enter Try.func54, Try.ntmps54
  go_wp2
  rw [← HW1.out]
  go_quiet ((go_at_call 65; exact Calls.quiet_of (HS _)))
  go_wp2
  go_ret2
  exact ⟨rfl, HB1.out _⟩
end Go.Proofs.Ytcdfbbjakkmmoaa
