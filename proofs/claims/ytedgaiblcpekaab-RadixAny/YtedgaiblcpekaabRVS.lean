/- Layer 3 (radix): trees whose values are of type string: the contracts, over again. -/
import Derived.Test.YtedgaiblcpekaabRLook
namespace Go.Proofs.Ytedgaiblcpekaab.S
open Go.RowKit Go.Shelf
set_option linter.unusedVariables false
variable {R : Nat → Prop}
attribute [local go_sem] Oper.semAt_some

structure VAt (w : World) (v : Vl) : Prop where
  blk : w.heap[v.a]? = some (.cells #[v.x, .pointer (some ⟨v.g, 0, none⟩)] 148)
  wat : Wc w v.g
  num : ∃ n : ByteArray, v.x = .string n

/-- The tree lies in memory. -/
inductive TAt R (w : World) : Tr → Prop
  | mk {a p v ks g ao cap} (blk : w.heap[a]? = some (.cells #[.string p, .pointer (vptr v), .slice ao ks.length cap, .pointer (some ⟨g, 0, none⟩)] 132))
      (kids : KidsAt R w ao ks) (val : ∀ x, v = some x → VAt w x) (wat : Wc w g) (sub : ∀ t ∈ ks, TAt R w t) (room : ks.length ≤ cap) (nil : ao = none → cap = 0) (psz : p.size ≤ 140737488351232) : TAt R w (.nd a p v ks g)

theorem VAt.below {w w' : World} {v : Vl} (h : VAt w v) (hb : Below w.heap.size w w') : VAt w' v := by
  exact ⟨(hb.block _ (lt_of_heap h.blk)).trans h.blk, h.wat.below hb, h.num⟩

theorem TAt.keep {w w' : World} {t : Tr} (h : TAt R w t) (hb : Below w.heap.size w w') : TAt R w' t := by
  induction h with
  | mk blk kids val wat sub room nil psz ih =>
    exact .mk ((hb.block _ (lt_of_heap blk)).trans blk) (kids.below hb) (fun x hx => (val x hx).below hb) (wat.below hb) ih room nil psz

/-- Blocks that are not there yet can be kept free, too. -/
theorem TAt.avoid {R' : Nat → Prop} {w : World} {t : Tr} (h : TAt R w t) (hR : ∀ b, R' b → w.heap.size ≤ b) : TAt R' w t := by
  induction h with
  | mk blk kids val wat sub room nil psz ih =>
    refine .mk blk (fun i hi => ?_) val wat ih room nil psz
    obtain ⟨b, off, ha, h0, _⟩ := kids i hi
    have hl : b < w.heap.size := World.block_lt_of_cell? w _ h0
    exact ⟨b, off, ha, h0, fun hc => by have := hR b hc; omega⟩

/-- A store into a block of R that is no node's, no value's and no watch's leaves the tree as it is. -/
theorem TAt.poke {w : World} {t : Tr} {nb i : Nat} {cs : Array Value} {ty : TypeId} (h : TAt R w t) (hR : R nb) (hb : w.heap[nb]? = some (.cells cs ty)) (h1 : ty ≠ 132) (h2 : ty ≠ 148) (h3 : ty ≠ 83) (v : Value) : TAt R (w.setCell ⟨nb, i, none⟩ v) t := by
  have hne : ∀ {a : Nat} {ds : Array Value} {ty' : TypeId}, w.heap[a]? = some (.cells ds ty') → ty ≠ ty' → (w.setCell ⟨nb, i, none⟩ v).heap[a]? = w.heap[a]? := fun ha ht => heap_setCell_other _ _ _ _ (fun e => by
    have e' : _ = nb := e
    subst e'
    have := hb.symm.trans ha
    simp at this
    exact ht this.2)
  have hwc : ∀ {g : Nat}, Wc w g → Wc (w.setCell ⟨nb, i, none⟩ v) g := fun hg => by
    obtain ⟨c, f, hg⟩ := hg
    exact ⟨c, f, (hne hg h3).trans hg⟩
  induction h with
  | mk blk kids val wat sub room nil psz ih =>
    refine .mk ((hne blk h1).trans blk) (fun j hj => ?_) (fun x hx => ?_) (hwc wat) ih room nil psz
    · obtain ⟨b, off, ha, h0, hr⟩ := kids j hj
      have hnb : b ≠ nb := fun e => hr (e ▸ hR)
      exact ⟨b, off, ha, by rw [World.cell?_setCell_other _ _ _ _ (fun e => hnb (by simpa using (congrArg Addr.block e).symm))]; exact h0, hr⟩
    · have hx' := val x hx
      exact ⟨(hne hx'.blk h2).trans hx'.blk, hwc hx'.wat, hx'.num⟩

theorem TAt.sub' {w : World} {t : Tr} (h : TAt R w t) : ∀ c ∈ t.ks, TAt R w c := by cases h; assumption

theorem TAt.lt {w : World} {t : Tr} (h : TAt R w t) : t.a < w.heap.size := by cases h with | mk blk _ _ _ _ _ _ _ => exact lt_of_heap blk

theorem TAt.psz' {w : World} {t : Tr} (h : TAt R w t) : t.p.size ≤ 140737488351232 := by cases h; assumption

theorem TAt.val' {w : World} {t : Tr} (h : TAt R w t) : ∀ x, t.v = some x → VAt w x := by cases h; assumption

/-- The cells of a node. -/
theorem TAt.cells {w : World} {t : Tr} (h : TAt R w t) : ∃ ao cap, w.cell? ⟨t.a, 0, none⟩ = some (.string t.p) ∧ w.cell? ⟨t.a, 1, none⟩ = some (.pointer (vptr t.v)) ∧
    w.cell? ⟨t.a, 2, none⟩ = some (.slice ao t.ks.length cap) ∧ w.cell? ⟨t.a, 3, none⟩ = some (.pointer (some ⟨t.g, 0, none⟩)) ∧ KidsAt R w ao t.ks ∧ t.ks.length ≤ cap ∧ (ao = none → cap = 0) := by
  cases h with
  | @mk a p v ks g ao cap blk kids val wat sub room nil psz =>
    exact ⟨ao, cap, by simp only [Tr.a]; rw [cell_of_blk blk]; rfl, by simp only [Tr.a]; rw [cell_of_blk blk]; rfl, by simp only [Tr.a]; rw [cell_of_blk blk]; rfl, by simp only [Tr.a]; rw [cell_of_blk blk]; rfl, kids, room, nil⟩

theorem newNode_calls (p : ByteArray) (po : Option Addr) (ao : Option Addr) (n cap : Nat) (w : World) :
    Calls Try.prog 38 #[.string p, .pointer po, .slice ao n cap] w fun e w' => e = .returned (.pointer (some ⟨w.heap.size + 2, 0, none⟩)) ∧ Below w.heap.size w w' ∧ w'.heap.size = w.heap.size + 3 ∧
      w'.heap[w.heap.size + 2]? = some (.cells #[.string p, .pointer po, .slice ao n cap, .pointer (some ⟨w.heap.size + 1, 0, none⟩)] 132) ∧ WAt w' (w.heap.size + 1) w.heap.size false := by
  go_enter Try.func38, Try.ntmps38
  go_wp2_with fail
  refine (new_calls w).mono ?_
  rintro e w1 ⟨rfl, hb1, hs1, hw1⟩
  go_wp2
  go_ret
  have hb2 : Below w1.heap.size w1 (w1.alloc (.cells #[.string p, .pointer po, .slice ao n cap, .pointer (some ⟨w.heap.size + 1, 0, none⟩)] 132)) := (Below.refl _ w1).alloc (Nat.le_refl _) _
  refine ⟨rfl, hb1.trans (hb2.mono hb1.size), by simp [World.size_alloc, hs1], ?_, hw1.below hb2⟩
  have := heap_alloc_new w1 (.cells #[.string p, .pointer po, .slice ao n cap, .pointer (some ⟨w.heap.size + 1, 0, none⟩)] 132)
  rw [hs1] at this
  exact this

theorem newValue_calls (n : ByteArray) (w : World) :
    Calls Try.prog 42 #[.string n] w fun e w' => e = .returned (.pointer (some ⟨w.heap.size + 2, 0, none⟩)) ∧ Below w.heap.size w w' ∧ w'.heap.size = w.heap.size + 3 ∧ VAt w' ⟨w.heap.size + 2, .string n, w.heap.size + 1⟩ := by
  go_enter Try.func42, Try.ntmps42
  go_wp2_with fail
  refine (new_calls w).mono ?_
  rintro e w1 ⟨rfl, hb1, hs1, hw1⟩
  go_wp2
  go_ret
  have hb2 : Below w1.heap.size w1 (w1.alloc (.cells #[.string n, .pointer (some ⟨w.heap.size + 1, 0, none⟩)] 148)) := (Below.refl _ w1).alloc (Nat.le_refl _) _
  refine ⟨rfl, hb1.trans (hb2.mono hb1.size), by simp [World.size_alloc, hs1], ?_, (hw1.below hb2).wc, ⟨n, rfl⟩⟩
  have := heap_alloc_new w1 (.cells #[.string n, .pointer (some ⟨w.heap.size + 1, 0, none⟩)] 148)
  rw [hs1] at this
  exact this

def held : Option Vl → Value
  | none => .string ⟨#[]⟩
  | some v => v.x

theorem get_calls (v : Option Vl) (w : World) (hv : ∀ x, v = some x → VAt w x) :
    Calls Try.prog 46 #[.pointer (vptr v)] w fun e w' => e = .returned (.tuple #[held v, .bool v.isSome]) ∧ w' = w := by
  cases v with
  | none =>
    simp only [vptr, held]
    go_enter Try.func46, Try.ntmps46
    go_wp2
    go_ret2
    exact ⟨rfl, rfl⟩
  | some x =>
    have h := hv x rfl
    obtain ⟨n, hn⟩ := h.num
    have c0 : w.cell? ⟨x.a, 0, none⟩ = some (.string n) := by rw [cell_of_blk h.blk, hn]; rfl
    simp only [vptr, held, hn]
    clear h hv hn
    go_enter Try.func46, Try.ntmps46
    go_wp2
    go_ret2
    exact ⟨rfl, rfl⟩

theorem infoPN' : (Try.prog.info? 96).map (fun i => (i.zero, i.size, i.bytes)) = some (some (.pointer none), 1, 8) := by kernel_rfl

set_option maxHeartbeats 4000000 in
set_option maxRecDepth 100000 in
/-- Grow of nil: an empty slice of its own. -/
theorem grow_calls (n : Nat) (w : World) (hn : n ≤ 1000) :
    Calls Try.prog 103 #[.slice none 0 0, .int .i64 n] w fun e w' => ∃ v, e = .returned v ∧ OwnV w' w.heap.size 96 v [] ∧ Below w.heap.size w w' ∧ ∃ ao cap, v = .slice ao 0 cap := by
  by_cases h0 : n = 0
  · subst h0
    go_enter Try.func103, Try.ntmps103
    go_wp2
    go_ret
    exact ⟨_, rfl, OwnV.nil _ _ _, Below.refl _ _, _, _, rfl⟩
  obtain ⟨i0, hi, hz0, hz1, hz2⟩ := infoOf infoPN'
  have hG1 := grownCap_ge w n 0 96
  have hG2 := grownCap_le_maxLen w n 0 96 (by unfold maxLen; omega)
  have hrun := Lib.run_append_grow_zeros (P := Try.prog) w 104 3 104 96 i0 (.pointer none) .i64 .i64 Try.underlying104 Try.underlying3 hi hz0 none 0 0 []
    (run_firstCells_none w.drew i0.size 0 0 0) n (by omega) (by omega) (by omega) (by omega) (by rw [hz2]; omega) (by simp only [Nat.zero_add]; exact growslice_fits (by omega) (by rw [hz2]; omega))
  simp only [Nat.zero_add] at hrun
  obtain ⟨G, hG⟩ : ∃ G, G = grownCap w n 0 96 := ⟨_, rfl⟩
  rw [← hG] at hrun hG1 hG2
  clear hG
  obtain ⟨Z, HZ⟩ : ∃ Z : Array Value, Hid (Z = (#[] : Array Value) ++ Builtin.zeroCells (Value.pointer none).cells n ++ Builtin.zeroCells (Value.pointer none).cells (G - n)) := ⟨_, rfl⟩
  have hZs : Z.size = G := by rw [HZ.out]; simp [Builtin.zeroCells, Value.cells]; omega
  have hrun' : (Builtin.append_ #[104, 3] 104 #[.slice none 0 0, .int .i64 n]).run Try.prog w = .ok (.slice (some ⟨w.heap.size, 0, none⟩) n G) (w.drew.alloc (.cells Z 96)) := by rw [HZ.out]; exact hrun
  clear hrun HZ
  have hg63 : G ≤ 9223372036854775807 := by unfold maxLen at hG2; omega
  go_enter Try.func103, Try.ntmps103
  go_wp2_with (at_builtin; refine Lib.wpList_append_run _ rfl _ _ _ _ rfl _ _ rfl rfl _ _ hrun' ?_)
  go_ret
  refine ⟨_, rfl, ?_, (Below.refl _ w).drew.alloc (Nat.le_refl _) _, _, _, rfl⟩
  refine ⟨by simp, .inr ⟨w.heap.size, G, Z, rfl, Nat.le_refl _, heap_alloc_new w.drew _, by simp, hG2, by simp [hZs], by simp⟩⟩

theorem towardK_calls (t : Tr) (w : World) (h : TAt R w t) (c : Addr) (n : Nat) (hc : w.cell? c = some (.int .i64 n)) (hn : n < t.p.size) (b : Int) :
    Calls Try.prog 101 #[.pointer (some ⟨t.a, 0, none⟩), .int .u8 b, .pointer (some c)] w fun e w' => e = .returned (.int .i64 (cmpI (t.byte n).toNat b)) ∧ ∃ m, w' = w.drewN m := by
  obtain ⟨ao, cap, c0, -, -, -, -, -⟩ := h.cells
  have hp := h.psz'
  rw [byte_get t n hn]
  clear h
  go_enter Try.func101, Try.ntmps101
  go_wp2
  go_quiet ((go_at_call 95; exact Calls.quiet_of_same (cmpByte_calls _ _ _)))
  go_wp2
  go_ret
  exact ⟨rfl, _, rfl⟩

set_option maxRecDepth 100000 in
set_option maxHeartbeats 800000 in
theorem search_calls (ks : List Tr) (ao : Option Addr) (cap : Nat) (n : Nat) (b : UInt8) (c : Addr) (w : World) (hk : KidsAt R w ao ks) (hl : ks.length ≤ 256) (ht : ∀ t ∈ ks, TAt R w t) (hn : ∀ t ∈ ks, n < t.p.size)
    (hc : w.cell? c = some (.int .i64 n)) (hs : (ks.map (Tr.byte n)).Pairwise (· < ·)) :
    Calls Try.prog 100 #[.slice ao ks.length cap, .int .u8 (b.toNat : Int), .func (.func 101) #[] #[.pointer (some c)]] w
      fun e w' => e = .returned (.tuple #[.int .i64 (posn ks n b : Int), .bool (thereB ks n b)]) ∧ ∃ m, w' = w.drewN m := by
  have HS : Hid ((ks.map (Tr.byte n)).Pairwise (· < ·)) := hs
  clear hs
  go_enter Try.func100, Try.ntmps100
  go_wp2
  go_loopw [9, 10] (fun x y wr => ∃ i j : Nat, x = .int .i64 i ∧ y = .int .i64 j ∧ i ≤ j ∧ j ≤ ks.length ∧ Hid (∀ q (hq : q < ks.length), q < i → ks[q].byte n < b) ∧ Hid (∀ q (hq : q < ks.length), j ≤ q → b ≤ ks[q].byte n) ∧ Hid (∃ m, wr = w.drewN m)) (fun x y _ => (intOf y).toNat - (intOf x).toNat)
  case atStart => exact ⟨0, ks.length, rfl, rfl, Nat.zero_le _, Nat.le_refl _, fun q hq h => by omega, fun q hq h => by omega, ⟨0, rfl⟩⟩
  case round =>
    obtain ⟨i, j, rfl, rfl, hij, hj, H1, H2, HW⟩ := hrel
    by_cases hlt : i < j
    · have hh : (i + j) / 2 < ks.length := by omega
      obtain ⟨bb, off, rfl, h0, -⟩ := hk _ hh
      have h1 : wr.cell? ⟨bb, off + (i + j) / 2, none⟩ = some (.pointer (some ⟨ks[(i + j) / 2].a, 0, none⟩)) := by obtain ⟨m, rfl⟩ := HW.out; simpa using h0
      have hT : TAt R wr ks[(i + j) / 2] := by obtain ⟨m, rfl⟩ := HW.out; exact (ht _ (List.getElem_mem hh)).keep ⟨rfl, rfl, rfl, Nat.le_refl _, fun _ _ => rfl⟩
      have hcw : wr.cell? c = some (.int .i64 n) := by obtain ⟨m, rfl⟩ := HW.out; simpa using hc
      have HC := towardK_calls _ wr hT c n hcw (hn _ (List.getElem_mem hh)) b.toNat
      clear hT h0 hcw ht hn hk hc
      by_cases hcmp : ks[(i + j) / 2].byte n < b
      · have hneg : cmpI (ks[(i + j) / 2].byte n).toNat b.toNat < 0 := cmpI_neg.2 hcmp
        have HCM : Hid (ks[(i + j) / 2].byte n < b) := hcmp
        clear hcmp
        go_wp2_with fail
        refine HC.mono ?_
        clear HC
        rintro e w1 ⟨rfl, hw1⟩
        have HW1 : Hid (∃ m, w1 = w.drewN m) := by obtain ⟨m, rfl⟩ := HW.out; obtain ⟨m', rfl⟩ := hw1; exact ⟨m + m', by rw [World.drewN_drewN]⟩
        clear hw1 h1
        revert hneg
        generalize cmpI (ks[(i + j) / 2].byte n).toNat b.toNat = z
        intro hneg
        go_wp2
        go_roundw
        case rel => exact ⟨(i + j) / 2 + 1, j, by go_num, rfl, by omega, hj, fun q hq h => by
          rcases Nat.lt_or_ge q ((i + j) / 2) with hq2 | hq2
          · exact UInt8.lt_trans (lt_of_sorted HS.out hq2 hh) HCM.out
          · have : q = (i + j) / 2 := by omega
            subst this; exact HCM.out, H2, HW1⟩
        case measure => simp [intOf]; omega
      · have hneg : ¬ cmpI (ks[(i + j) / 2].byte n).toNat b.toNat < 0 := fun h => hcmp (cmpI_neg.1 h)
        have HCM : Hid (b ≤ ks[(i + j) / 2].byte n) := UInt8.not_lt.1 hcmp
        clear hcmp
        go_wp2_with fail
        refine HC.mono ?_
        clear HC
        rintro e w1 ⟨rfl, hw1⟩
        have HW1 : Hid (∃ m, w1 = w.drewN m) := by obtain ⟨m, rfl⟩ := HW.out; obtain ⟨m', rfl⟩ := hw1; exact ⟨m + m', by rw [World.drewN_drewN]⟩
        clear hw1 h1
        revert hneg
        generalize cmpI (ks[(i + j) / 2].byte n).toNat b.toNat = z
        intro hneg
        go_wp2
        go_roundw
        case rel => exact ⟨i, (i + j) / 2, rfl, by go_num, by omega, by omega, H1, fun q hq h => by
          rcases Nat.lt_or_ge ((i + j) / 2) q with hq2 | hq2
          · exact UInt8.le_of_lt (UInt8.lt_of_le_of_lt HCM.out (lt_of_sorted HS.out hq2 hq))
          · have : q = (i + j) / 2 := by omega
            subst this; exact HCM.out, HW1⟩
        case measure => simp [intOf]; omega
    · have hij' : i = j := by omega
      subst hij'
      have HP : Hid (posn ks n b = i) := posn_eq (by omega) (fun q hq h => H1.out q hq h) (fun h => H2.out i h (Nat.le_refl _))
      by_cases hin : i < ks.length
      · have hd : decide ((i : Int) < (ks.length : Int)) = true := by simpa using hin
        obtain ⟨bb, off, rfl, h0, -⟩ := hk _ hin
        have h1 : wr.cell? ⟨bb, off + i, none⟩ = some (.pointer (some ⟨ks[i].a, 0, none⟩)) := by obtain ⟨m, rfl⟩ := HW.out; simpa using h0
        have hT : TAt R wr ks[i] := by obtain ⟨m, rfl⟩ := HW.out; exact (ht _ (List.getElem_mem hin)).keep ⟨rfl, rfl, rfl, Nat.le_refl _, fun _ _ => rfl⟩
        have hcw : wr.cell? c = some (.int .i64 n) := by obtain ⟨m, rfl⟩ := HW.out; simpa using hc
        have HC := towardK_calls _ wr hT c n hcw (hn _ (List.getElem_mem hin)) b.toNat
        have HTH : Hid (thereB ks n b = (cmpI (ks[i].byte n).toNat b.toNat == 0)) := by
          show thereB ks n b = _
          unfold thereB
          rw [HP.out, List.getElem?_eq_getElem hin]
          rw [Bool.eq_iff_iff]; simp [cmpI_zero]
        clear hT h0 hcw ht hn hk hc
        go_wp2_with fail
        refine HC.mono ?_
        clear HC
        rintro e w1 ⟨rfl, hw1⟩
        have HW1 : Hid (∃ m, w1 = w.drewN m) := by obtain ⟨m, rfl⟩ := HW.out; obtain ⟨m', rfl⟩ := hw1; exact ⟨m + m', by rw [World.drewN_drewN]⟩
        clear hw1 h1
        revert HTH
        generalize cmpI (ks[i].byte n).toNat b.toNat = z
        intro HTH
        go_wp2
        go_ret2
        exact ⟨by rw [HP.out, HTH.out]; rfl, HW1.out⟩
      · have hd : decide ((i : Int) < (ks.length : Int)) = false := by simpa using hin
        have HTH : Hid (thereB ks n b = false) := by
          show thereB ks n b = _
          unfold thereB
          rw [HP.out, List.getElem?_eq_none (by omega)]
        clear ht hn hk hc
        go_wp2
        go_ret2
        exact ⟨by rw [HP.out, HTH.out]; rfl, HW.out⟩

theorem toward_end (t : Tr) (k : ByteArray) (w : World) (h : TAt R w t) (hk : k.size = t.p.size) :
    Calls Try.prog 77 #[.pointer (some ⟨t.a, 0, none⟩), .string k] w fun e w' => e = .returned (.tuple #[.int .i64 0, .bool false]) ∧ Below w.heap.size w w' := by
  obtain ⟨ao, cap, c0, -, -, -, -, -⟩ := h.cells
  have hp := h.psz'
  have ha := h.lt
  clear h
  go_enter Try.func77, Try.ntmps77
  go_wp2
  go_ret2
  exact ⟨rfl, by first | exact (Below.refl _ _).alloc (Nat.le_refl _) _ | exact ((Below.refl _ _).alloc (Nat.le_refl _) _).setCell (Nat.le_refl _) _⟩

set_option maxRecDepth 100000 in
theorem toward_at (t : Tr) (k : ByteArray) (w : World) (h : TAt R w t) (hw : WF t) (hk : t.p.size < k.size) (hks : k.size ≤ 140737488351232) :
    Calls Try.prog 77 #[.pointer (some ⟨t.a, 0, none⟩), .string k] w fun e w' =>
      e = .returned (.tuple #[.int .i64 (posn t.ks t.p.size k[t.p.size] : Int), .bool (thereB t.ks t.p.size k[t.p.size])]) ∧ Below w.heap.size w w' := by
  have hmf : ∀ (fn : Fn) (first cap : Array Value) (w : World), (Instr.makeFunc fn first cap).run Try.prog w = .ok (.func fn first cap) w := fun _ _ _ _ => rfl
  obtain ⟨ao, cap, c0, -, c2, -, hkids, -⟩ := h.cells
  have hp := h.psz'
  have ha := h.lt
  have hsub := h.sub'
  have hne : ¬ (k.size : Int) = (t.p.size : Int) := by omega
  have hneb : ((k.size : Int) == (t.p.size : Int)) = false := by simpa using hne
  -- the world behind the box of 'beyond'
  obtain ⟨w1, HW1⟩ : ∃ w1, Hid (w1 = w.alloc (.cells #[.int .i64 (t.p.size : Int)] 3)) := ⟨_, rfl⟩
  have hb1 : Below w.heap.size w w1 := by rw [HW1.out]; exact (Below.refl _ _).alloc (Nat.le_refl _) _
  have hc1 : w1.cell? ⟨w.heap.size, 0, none⟩ = some (.int .i64 (t.p.size : Int)) := by rw [HW1.out, World.cell?_alloc_mark]; rfl
  have hbd : ∀ m, Below w.heap.size w (w1.drewN m) := fun m => ⟨hb1.os, hb1.tape, hb1.output, hb1.size, hb1.block⟩
  have HS := fun m => search_calls t.ks ao cap t.p.size k[t.p.size] ⟨w.heap.size, 0, none⟩ (w1.drewN m) (hkids.below (hbd m)) hw.few (fun c hc => (hsub c hc).keep (hbd m)) (fun c hc => (hw.ext' c hc).2) hc1 hw.ord'
  have c2' : w1.cell? ⟨t.a, 2, none⟩ = some (.slice ao t.ks.length cap) := by rw [hb1.cell (by exact ha)]; exact c2
  have HB1 : Hid (∀ m, Below w.heap.size w (w1.drewN m)) := hbd
  clear h hw hkids hsub hb1 c2 hbd
  go_enter Try.func77, Try.ntmps77
  go_wp2
  rw [← HW1.out]
  go_quiet ((go_at_call 100; exact Calls.quiet_of (HS _)))
  go_wp2
  go_ret2
  exact ⟨rfl, HB1.out _⟩

set_option maxRecDepth 100000 in
set_option maxHeartbeats 800000 in
theorem next_calls (t : Tr) (k : ByteArray) (w : World) (h : TAt R w t) (hw : WF t) (hp : t.path <+: k.data.toList) (hks : k.size ≤ 140737488351232) :
    Calls Try.prog 86 #[.pointer (some ⟨t.a, 0, none⟩), .string k] w fun e w' => e = .returned (.pointer (nptr (nx t k.data.toList))) ∧ Below w.heap.size w w' := by
  have hnot : ∀ (x : Bool) (w : World), (Op.unary .not (.bool x)).run Try.prog w = .ok (.bool (!x)) w := fun _ _ => rfl
  have hle : t.p.size ≤ k.size := by have := hp.length_le; rw [path_length] at this; simpa using this
  obtain ⟨ao, cap, c0, -, c2, -, hkids, -⟩ := h.cells
  have hpz := h.psz'
  have ha := h.lt
  by_cases he : k.size = t.p.size
  · have HT := toward_end t k w h he
    rw [nx_end hw (by simp; omega)]
    clear h hw hp hkids
    simp only [nptr]
    go_enter Try.func86, Try.ntmps86
    go_wp2_with fail
    refine HT.mono ?_
    clear HT
    rintro e w1 ⟨rfl, hb1⟩
    have c0' : w1.cell? ⟨t.a, 0, none⟩ = some (.string t.p) := by rw [hb1.cell (by exact ha)]; exact c0
    have HB : Hid (Below w.heap.size w w1) := hb1
    clear hb1 c0 c2
    go_wp2
    go_quiet (fail)
    go_wp2
    go_ret
    exact ⟨rfl, ⟨HB.out.os, HB.out.tape, HB.out.output, HB.out.size, HB.out.block⟩⟩
  have hlt : t.p.size < k.size := by omega
  have HT := toward_at t k w h hw hlt hks
  cases hth : thereB t.ks t.p.size k[t.p.size] with
  | false =>
    rw [there_false hw hlt hth]
    rw [hth] at HT
    clear h hw hp hkids hth
    simp only [nptr]
    go_enter Try.func86, Try.ntmps86
    go_wp2_with fail
    refine HT.mono ?_
    clear HT
    rintro e w1 ⟨rfl, hb1⟩
    have c0' : w1.cell? ⟨t.a, 0, none⟩ = some (.string t.p) := by rw [hb1.cell (by exact ha)]; exact c0
    have HB : Hid (Below w.heap.size w w1) := hb1
    clear hb1 c0 c2
    go_wp2
    go_quiet (fail)
    go_wp2
    go_ret
    exact ⟨rfl, ⟨HB.out.os, HB.out.tape, HB.out.output, HB.out.size, HB.out.block⟩⟩
  | true =>
    obtain ⟨hi, hbyte⟩ := there_true hlt hth
    rw [hth] at HT
    have hx := hw.ext' _ (List.getElem_mem hi)
    have hT := h.sub' _ (List.getElem_mem hi)
    have hnx : nx t k.data.toList = if begB k.data.toList t.ks[posn t.ks t.p.size k[t.p.size]].path then some t.ks[posn t.ks t.p.size k[t.p.size]] else none := by
      split
      · rename_i hb
        exact nx_some hw hi (by unfold begB at hb; simpa using hb)
      · rename_i hb
        refine nx_none hw ?_
        rw [getD_key k _ hlt]
        intro _ hq
        exact hb (by unfold begB; simpa using hq)
    rw [hnx]
    have hbd := beg_drop (p := t.path) hx.1 hp
    rw [path_length] at hbd
    have hcp := hT.psz'
    have hsz := hx.2
    obtain ⟨bb, off, rfl, hk0, -⟩ := hkids _ hi
    obtain ⟨-, -, d0, -, -, -, -, -⟩ := hT.cells
    have hda := hT.lt
    have hbl : bb < w.heap.size := World.block_lt_of_cell? w _ hk0
    clear hT h hw hp hkids hth hx hnx hbyte
    revert HT hk0 d0 hda hbd hcp hsz
    revert hi
    generalize posn t.ks t.p.size k[t.p.size] = q
    intro hi
    generalize t.ks[q] = c
    intro HT hbd hcp hsz hk0 d0 hda
    unfold Tr.path at hbd
    rw [← extract_drop, ← extract_drop] at hbd
    have HH := fun W => hasPrefix_calls (k.extract t.p.size k.size) (c.p.extract t.p.size c.p.size) W (by simp [ByteArray.size_extract]; omega) (by simp [ByteArray.size_extract]; omega)
    rw [hbd] at HH
    clear hbd
    cases hb : begB k.data.toList c.p.data.toList with
    | true =>
      rw [hb] at HH
      have hb' : begB k.data.toList c.path = true := hb
      rw [if_pos hb']
      clear hb hb'
      simp only [nptr]
      go_enter Try.func86, Try.ntmps86
      go_wp2_with fail
      refine HT.mono ?_
      clear HT
      rintro e w1 ⟨rfl, hb1⟩
      have c0' : w1.cell? ⟨t.a, 0, none⟩ = some (.string t.p) := by rw [hb1.cell (by exact ha)]; exact c0
      have c2' : w1.cell? ⟨t.a, 2, none⟩ = some (.slice (some ⟨bb, off, none⟩) t.ks.length cap) := by rw [hb1.cell (by exact ha)]; exact c2
      have k0' : w1.cell? ⟨bb, off + q, none⟩ = some (.pointer (some ⟨c.a, 0, none⟩)) := by rw [hb1.cell (by exact hbl)]; exact hk0
      have d0' : w1.cell? ⟨c.a, 0, none⟩ = some (.string c.p) := by rw [hb1.cell (by exact hda)]; exact d0
      have HB : Hid (Below w.heap.size w w1) := hb1
      clear hb1 c0 c2 hk0 d0 hda hbl ha
      go_wp2
      go_quiet ((go_at_call 92; exact Calls.quiet_of_same (HH _)))
      go_wp2
      go_ret
      exact ⟨rfl, ⟨HB.out.os, HB.out.tape, HB.out.output, HB.out.size, HB.out.block⟩⟩
    | false =>
      rw [hb] at HH
      have hb' : ¬ begB k.data.toList c.path = true := by show ¬ begB k.data.toList c.p.data.toList = true; rw [hb]; simp
      rw [if_neg hb']
      clear hb hb'
      simp only [nptr]
      go_enter Try.func86, Try.ntmps86
      go_wp2_with fail
      refine HT.mono ?_
      clear HT
      rintro e w1 ⟨rfl, hb1⟩
      have c0' : w1.cell? ⟨t.a, 0, none⟩ = some (.string t.p) := by rw [hb1.cell (by exact ha)]; exact c0
      have c2' : w1.cell? ⟨t.a, 2, none⟩ = some (.slice (some ⟨bb, off, none⟩) t.ks.length cap) := by rw [hb1.cell (by exact ha)]; exact c2
      have k0' : w1.cell? ⟨bb, off + q, none⟩ = some (.pointer (some ⟨c.a, 0, none⟩)) := by rw [hb1.cell (by exact hbl)]; exact hk0
      have d0' : w1.cell? ⟨c.a, 0, none⟩ = some (.string c.p) := by rw [hb1.cell (by exact hda)]; exact d0
      have HB : Hid (Below w.heap.size w w1) := hb1
      clear hb1 c0 c2 hk0 d0 hda hbl ha
      go_wp2
      go_quiet ((go_at_call 92; exact Calls.quiet_of_same (HH _)))
      go_wp2
      go_ret
      exact ⟨rfl, ⟨HB.out.os, HB.out.tape, HB.out.output, HB.out.size, HB.out.block⟩⟩

theorem along_tat {w : World} {t : Tr} {k : List UInt8} {l : List Tr} (h : Along k t l) (ht : TAt R w t) : ∀ c ∈ l, TAt R w c := by
  induction h with
  | stop h => simpa using ht
  | go h r ih =>
    intro c hc
    rcases List.mem_cons.1 hc with rfl | hc
    · exact ht
    · exact ih (ht.sub' _ (nx_mem h).1) c hc

theorem leftOf_at {k : ByteArray} {w : World} {t : Tr} (h : TAt R w t) : leftOf k (.pointer (some ⟨t.a, 0, none⟩)) w = k.size + 1 - t.p.size := by
  obtain ⟨-, -, c0, -, -, -, -, -⟩ := h.cells
  simp [leftOf, c0]

set_option maxRecDepth 100000 in
set_option maxHeartbeats 800000 in
theorem along_calls (fid : Nat) (hcf : ∀ args W, (callFunc fid args).run Try.prog W = .ok (.enter fid args) W) (cv : Value) (t : Tr) (k : ByteArray) (l : List Tr) (I : Nat → World → Prop) (w : World) (hA : Along k.data.toList t l) (hw : WF t) (hp : t.path <+: k.data.toList) (hks : k.size ≤ 140737488351232)
    (h0 : I 0 w) (hI : ∀ i W W', I i W → Below W.heap.size W W' → I i W') (hT : ∀ i W, I i W → TAt R W t)
    (hstep : ∀ i (hi : i < l.length) W, I i W → TAt R W l[i] → Calls Try.prog fid #[.pointer (some ⟨l[i].a, 0, none⟩), cv] W fun e W' => e = .returned (.tuple #[]) ∧ I (i + 1) W') :
    Calls Try.prog 56 #[.pointer (some ⟨t.a, 0, none⟩), .string k, .func (.func fid) #[] #[cv]] w fun e w' => e = .returned (.tuple #[]) ∧ I l.length w' := by
  have hin := hA.inc hw
  have hpre := hA.pre hp
  have hwf := hA.wf hw
  have hst := hA.step
  have htat := fun W (h : TAt R W t) => along_tat hA h
  obtain ⟨r, hr⟩ := hA.head
  have hl0 : 0 < l.length := by rw [hr]; simp
  have hh0 : l[0] = t := by subst hr; rfl
  have H0 : Hid (I 0 w) := h0
  have HI : Hid (∀ i W W', I i W → Below W.heap.size W W' → I i W') := hI
  have HT : Hid (∀ i W, I i W → ∀ c ∈ l, TAt R W c) := fun i W h => htat W (hT i W h)
  have HST : Hid (∀ i (hi : i < l.length), nx l[i] k.data.toList = l[i + 1]?) := hst
  have HIN : Hid ((l.map (·.p.size)).Pairwise (· < ·)) := hin.1
  have HPRE : Hid (∀ c ∈ l, c.path <+: k.data.toList) := hpre
  have HWF : Hid (∀ c ∈ l, WF c) := hwf
  have HS : Hid (∀ i (hi : i < l.length) W, I i W → TAt R W l[i] → Calls Try.prog fid #[.pointer (some ⟨l[i].a, 0, none⟩), cv] W fun e W' => e = .returned (.tuple #[]) ∧ I (i + 1) W') := hstep
  have hh0' : t.a = l[0].a := by rw [hh0]
  rw [hh0']
  clear hin hpre hwf hst htat hr r hh0 hh0' h0 hI hT hA hw hp hstep
  clear t
  go_enter Try.func56, Try.ntmps56
  go_wp2
  go_loopw [0] (fun n wr => ∃ i : Nat, i ≤ l.length ∧ n = .pointer (nptr l[i]?) ∧ Hid (I i wr)) (fun n wr => leftOf k n wr)
  case atStart => exact ⟨0, Nat.zero_le _, by rw [List.getElem?_eq_getElem hl0]; rfl, H0⟩
  case round =>
    obtain ⟨i, hi, rfl, HJ⟩ := hrel
    by_cases hlt : i < l.length
    · rw [List.getElem?_eq_getElem hlt]
      simp only [nptr]
      have hmem := List.getElem_mem hlt
      have HC := HS.out i hlt wr HJ.out (HT.out i wr HJ.out _ hmem)
      have hle : l[i].p.size ≤ k.size := by have := (HPRE.out _ hmem).length_le; rw [path_length] at this; simpa using this
      have HM : Hid (leftOf k (.pointer (some ⟨l[i].a, 0, none⟩)) wr = k.size + 1 - l[i].p.size) := leftOf_at (HT.out i wr HJ.out _ hmem)
      go_wp2_with fail
      refine HC.mono ?_
      clear HC
      rintro e w1 ⟨rfl, hJ1⟩
      have HN := next_calls l[i] k w1 (HT.out _ w1 hJ1 _ hmem) (HWF.out _ hmem) (HPRE.out _ hmem) hks
      rw [HST.out i hlt] at HN
      have HJ1 : Hid (I (i + 1) w1) := hJ1
      clear hJ1 HJ
      go_wp2_with fail
      refine HN.mono ?_
      clear HN
      rintro e w2 ⟨rfl, hb2⟩
      have HJ2 : Hid (I (i + 1) w2) := HI.out _ _ _ HJ1.out hb2
      clear hb2 HJ1
      go_wp2
      go_roundw
      case rel => exact ⟨i + 1, by omega, rfl, HJ2⟩
      case measure =>
        rw [HM.out]
        by_cases h1 : i + 1 < l.length
        · have hlt2 := List.pairwise_iff_getElem.1 HIN.out i (i + 1) (by simpa using hlt) (by simpa using h1) (by omega)
          simp only [List.getElem_map] at hlt2
          rw [List.getElem?_eq_getElem h1]
          simp only [nptr]
          rw [leftOf_at (HT.out _ w2 HJ2.out _ (List.getElem_mem h1))]
          omega
        · rw [List.getElem?_eq_none (by omega)]
          simp only [nptr, leftOf]
          omega
    · have hil : i = l.length := by omega
      subst hil
      rw [List.getElem?_eq_none (Nat.le_refl _)]
      simp only [nptr]
      go_wp2
      go_end0
      exact ⟨rfl, HJ.out⟩

theorem enters_way (args : Array Value) (W : World) : (callFunc 76 args).run Try.prog W = .ok (.enter 76 args) W := by
  have := Try.func76
  go_simp

theorem enters_reach (args : Array Value) (W : World) : (callFunc 88 args).run Try.prog W = .ok (.enter 88 args) W := by
  have := Try.func88
  go_simp

theorem reachK_calls (u : Option Addr) (b : Nat) (x : Value) (w : World) (hb : w.heap[b]? = some (.cells #[x] 96)) :
    Calls Try.prog 88 #[.pointer u, .pointer (some ⟨b, 0, none⟩)] w fun e w' => e = .returned (.tuple #[]) ∧ w' = w.setCell ⟨b, 0, none⟩ (.pointer u) := by
  have c0 : w.cell? ⟨b, 0, none⟩ = some x := by rw [cell_of_blk hb]; rfl
  have z0 : w.frozen? ⟨b, 0, none⟩ = false := frozen_of_blk hb
  clear hb
  go_enter Try.func88, Try.ntmps88
  go_wp2
  go_end0
  exact ⟨rfl, rfl⟩

/-- What reach holds between two nodes. -/
structure RI (w : World) (l : List Tr) (hl : 0 < l.length) (i : Nat) (W : World) : Prop where
  below : Below w.heap.size w W
  box : W.heap[w.heap.size]? = some (.cells #[.pointer (some ⟨(l[i - 1]?.getD l[0]).a, 0, none⟩)] 96)

set_option maxRecDepth 100000 in
theorem reach_calls (t : Tr) (k : ByteArray) (w : World) (init : List Tr) (c : Tr) (hA : Along k.data.toList t (init ++ [c])) (h : TAt R w t) (hw : WF t) (hp : t.path <+: k.data.toList) (hks : k.size ≤ 140737488351232) :
    Calls Try.prog 62 #[.pointer (some ⟨t.a, 0, none⟩), .string k] w fun e w' => e = .returned (.pointer (some ⟨c.a, 0, none⟩)) ∧ Below w.heap.size w w' := by
  have hmf : ∀ (fn : Fn) (first cap : Array Value) (w : World), (Instr.makeFunc fn first cap).run Try.prog w = .ok (.func fn first cap) w := fun _ _ _ _ => rfl
  have hl : 0 < (init ++ [c]).length := by simp
  have hh0 : (init ++ [c])[0] = t := by obtain ⟨r, hr⟩ := hA.head; simp only [hr]; rfl
  obtain ⟨w1, HW1⟩ : ∃ w1, Hid (w1 = w.alloc (.cells #[.pointer (some ⟨t.a, 0, none⟩)] 96)) := ⟨_, rfl⟩
  have hb1 : Below w.heap.size w w1 := by rw [HW1.out]; exact (Below.refl _ _).alloc (Nat.le_refl _) _
  have hbox : w1.heap[w.heap.size]? = some (.cells #[.pointer (some ⟨t.a, 0, none⟩)] 96) := by rw [HW1.out]; exact heap_alloc_new w _
  have HA := along_calls 88 enters_reach (.pointer (some ⟨w.heap.size, 0, none⟩)) t k (init ++ [c]) (RI w (init ++ [c]) hl) w1 hA hw hp hks
    ⟨hb1, by rw [hbox]; simp [hh0]⟩
    (fun i W W' hi hb => ⟨hi.below.trans (hb.mono hi.below.size), by rw [hb.block _ (lt_of_heap hi.box)]; exact hi.box⟩)
    (fun i W hi => h.keep hi.below)
    (fun i hi W hI _ => (reachK_calls _ _ _ W hI.box).mono (by
      rintro e W' ⟨rfl, rfl⟩
      refine ⟨rfl, hI.below.setCell (Nat.le_refl _) _, ?_⟩
      rw [setCell_blk hI.box]
      simp [List.getElem?_eq_getElem hi]))
  clear hA h hw hp hbox hb1
  go_enter Try.func62, Try.ntmps62
  go_wp2_with fail
  rw [← HW1.out]
  refine HA.mono ?_
  clear HA
  rintro e w2 ⟨rfl, hI⟩
  have c0 : w2.cell? ⟨w.heap.size, 0, none⟩ = some (.pointer (some ⟨c.a, 0, none⟩)) := by rw [cell_of_blk hI.box]; simp
  have HB : Hid (Below w.heap.size w w2) := hI.below
  clear hI
  go_wp2
  go_ret
  exact ⟨rfl, HB.out⟩

theorem valueOf_calls (t : Tr) (k : ByteArray) (w : World) (init : List Tr) (c : Tr) (hA : Along k.data.toList t (init ++ [c])) (h : TAt R w t) (hw : WF t) (hp : t.path <+: k.data.toList) (hks : k.size ≤ 140737488351232) :
    Calls Try.prog 45 #[.pointer (some ⟨t.a, 0, none⟩), .string k] w fun e w' => e = .returned (.pointer (vptr (valAt c k))) ∧ Below w.heap.size w w' := by
  have HR := reach_calls t k w init c hA h hw hp hks
  have hT := along_tat hA h c (by simp)
  obtain ⟨ao, cap, c0, c1, -, -, -, -⟩ := hT.cells
  have hpz := hT.psz'
  have ha := hT.lt
  clear hA h hw hp hT
  by_cases hlt : c.p.size < k.size
  · have e : valAt c k = none := by unfold valAt; rw [if_pos hlt]
    rw [e]
    clear e
    simp only [vptr]
    go_enter Try.func45, Try.ntmps45
    go_wp2_with fail
    refine HR.mono ?_
    clear HR
    rintro e w1 ⟨rfl, hb1⟩
    have c0' : w1.cell? ⟨c.a, 0, none⟩ = some (.string c.p) := by rw [hb1.cell (by exact ha)]; exact c0
    have HB : Hid (Below w.heap.size w w1) := hb1
    clear hb1 c0 c1
    go_wp2
    go_ret
    exact ⟨rfl, HB.out⟩
  · have e : valAt c k = c.v := by unfold valAt; rw [if_neg hlt]
    rw [e]
    clear e
    go_enter Try.func45, Try.ntmps45
    go_wp2_with fail
    refine HR.mono ?_
    clear HR
    rintro e w1 ⟨rfl, hb1⟩
    have c0' : w1.cell? ⟨c.a, 0, none⟩ = some (.string c.p) := by rw [hb1.cell (by exact ha)]; exact c0
    have c1' : w1.cell? ⟨c.a, 1, none⟩ = some (.pointer (vptr c.v)) := by rw [hb1.cell (by exact ha)]; exact c1
    have HB : Hid (Below w.heap.size w w1) := hb1
    clear hb1 c0 c1
    go_wp2
    go_ret
    exact ⟨rfl, HB.out⟩

theorem infoPN : (Try.prog.info? 96).map (fun i => (i.zero, i.size, i.bytes)) = some (some (.pointer none), 1, 8) := by kernel_rfl

theorem wayK_calls (u : Tr) (b B : Nat) (v : Value) (vs : List Value) (w : World) (hb : w.heap[b]? = some (.cells #[v] 104)) (ho : OwnV w B 96 v vs) (hB : b < B) (hBs : B ≤ w.heap.size) (hl : vs.length + 1 ≤ 17592186044416) :
    Calls Try.prog 76 #[nodeP u, .pointer (some ⟨b, 0, none⟩)] w fun e w' => e = .returned (.tuple #[]) ∧ ∃ v', w'.heap[b]? = some (.cells #[v'] 104) ∧ OwnV w' B 96 v' (vs ++ [nodeP u]) ∧ Below b w w' ∧ w.heap.size ≤ w'.heap.size := by
  obtain ⟨ao, cap, rfl⟩ := ho.shape
  have c0 : w.cell? ⟨b, 0, none⟩ = some (.slice ao vs.length cap) := by rw [cell_of_blk hb]; rfl
  have HBX : Hid (w.heap[b]? = some (.cells #[.slice ao vs.length cap] 104)) := hb
  have hlt : ∀ k, (Value.slice ao vs.length cap).ownBlock = some k → B ≤ k := fun k hk => (ho.lt k hk).1
  have HLT : Hid (∀ k, (Value.slice ao vs.length cap).ownBlock = some k → B ≤ k) := hlt
  clear hb hlt
  unfold nodeP
  go_enter Try.func76, Try.ntmps76
  go_wp2_with (at_builtin; refine append_val _ rfl (.tmp 3) (.tmp 5) 104 96 (.pointer none) 8 Try.underlying104 infoPN rfl rfl B _ vs rfl (.pointer (some ⟨u.a, 0, none⟩)) rfl _ rfl (by simp) ho (by omega) (by omega) hBs ?_)
  intro v1 w2 ho2 hg2
  obtain ⟨ao1, cap1, hv1⟩ := ho2.shape
  rw [List.length_append, List.length_singleton] at hv1
  have e1 : w2.heap[b]? = some (.cells #[.slice ao vs.length cap] 104) := (hg2.grown.block b (by omega) (fun e => by have := HLT.out b e.symm; omega)).trans HBX.out
  have d2 : w2.cell? ⟨b, 0, none⟩ = some (.slice ao vs.length cap) := by rw [cell_of_blk e1]; rfl
  have z2 : w2.frozen? ⟨b, 0, none⟩ = false := frozen_of_blk e1
  have HE : Hid (w2.heap[b]? = some (.cells #[.slice ao vs.length cap] 104)) := e1
  have HO : Hid (OwnV w2 B 96 v1 (vs ++ [.pointer (some ⟨u.a, 0, none⟩)])) := ho2
  have HG : Hid (Below b w w2 ∧ w.heap.size ≤ w2.heap.size) := ⟨hg2.toBelow (by omega) (fun k hk => by have := HLT.out k hk; omega), hg2.size⟩
  clear e1 ho2 hg2 ho c0
  revert HO
  subst hv1
  intro HO
  go_wp2
  go_end0
  revert HO
  generalize (Value.slice ao1 (vs.length + 1) cap1) = v1
  intro HO
  have hne : v1.ownBlock ≠ some b := fun e => by have := (HO.out.lt b e).1; omega
  refine ⟨rfl, v1, ?_, ownsRow_setCell_other HO.out hne _, HG.out.1.setCell (Nat.le_refl _) _, by simpa using HG.out.2⟩
  rw [setCell_blk HE.out]; simp

/-- What way holds between two nodes. -/
structure WI (w : World) (l : List Tr) (i : Nat) (W : World) : Prop where
  below : Below w.heap.size w W
  box : ∃ v, W.heap[w.heap.size]? = some (.cells #[v] 104) ∧ OwnV W (w.heap.size + 1) 96 v ((l.take i).map nodeP)

set_option maxRecDepth 100000 in
theorem way_calls (t : Tr) (k : ByteArray) (w : World) (init : List Tr) (c : Tr) (hA : Along k.data.toList t (init ++ [c])) (h : TAt R w t) (hw : WF t) (hp : t.path <+: k.data.toList) (hks : k.size ≤ 140737488351232) (hd : init.length + 1 ≤ 17592186044416) (hR : ∀ b, R b → b ≤ w.heap.size) :
    Calls Try.prog 40 #[.pointer (some ⟨t.a, 0, none⟩), .string k] w fun e w' => ∃ g cap, e = .returned (.tuple #[.slice (some ⟨g, 0, none⟩) init.length cap, .pointer (some ⟨c.a, 0, none⟩)]) ∧ Below w.heap.size w w' ∧ KidsAt R w' (some ⟨g, 0, none⟩) init ∧ g < w'.heap.size := by
  have hmf : ∀ (fn : Fn) (first cap : Array Value) (w : World), (Instr.makeFunc fn first cap).run Try.prog w = .ok (.func fn first cap) w := fun _ _ _ _ => rfl
  obtain ⟨w1, HW1⟩ : ∃ w1, Hid (w1 = w.alloc (.cells #[.slice none 0 0] 104)) := ⟨_, rfl⟩
  have hb1 : Below w.heap.size w w1 := by rw [HW1.out]; exact (Below.refl _ _).alloc (Nat.le_refl _) _
  have hs1 : w1.heap.size = w.heap.size + 1 := by rw [HW1.out]; simp [World.size_alloc]
  have hbox : w1.heap[w.heap.size]? = some (.cells #[.slice none 0 0] 104) := by rw [HW1.out]; exact heap_alloc_new w _
  have HA := along_calls 76 enters_way (.pointer (some ⟨w.heap.size, 0, none⟩)) t k (init ++ [c]) (WI w (init ++ [c])) w1 hA hw hp hks
    ⟨hb1, _, hbox, by simpa using OwnV.nil w1 _ _⟩
    (fun i W W' hi hb => ⟨hi.below.trans (hb.mono hi.below.size), by
      obtain ⟨v, h1, h2⟩ := hi.box
      exact ⟨v, by rw [hb.block _ (lt_of_heap h1)]; exact h1, h2.touched (Touched.ofBelow hb []) (by simp)⟩⟩)
    (fun i W hi => h.keep hi.below)
    (fun i hi W hI _ => by
      obtain ⟨v, h1, h2⟩ := hI.box
      have hlt := lt_of_heap h1
      have hli : (((init ++ [c]).take i).map nodeP).length = i := by simp at hi ⊢; omega
      refine (wayK_calls (init ++ [c])[i] _ (w.heap.size + 1) v _ W h1 h2 (by omega) (by omega) (by rw [hli]; simp at hi; omega)).mono ?_
      rintro e W' ⟨rfl, v', h3, h4, h5, h6⟩
      refine ⟨rfl, hI.below.trans h5, v', h3, ?_⟩
      rw [List.take_succ_eq_append_getElem hi, List.map_append]
      exact h4)
  clear hA h hw hp hbox hb1 hs1
  go_enter Try.func40, Try.ntmps40
  go_wp2_with fail
  rw [← HW1.out]
  refine HA.mono ?_
  clear HA
  rintro e w2 ⟨rfl, hI⟩
  obtain ⟨v, h1, h2⟩ := hI.box
  rw [List.take_length] at h2
  obtain ⟨ao, cap, rfl⟩ := h2.shape
  have hlen : ((init ++ [c]).map nodeP).length = init.length + 1 := by simp
  rw [hlen] at h1 h2
  obtain ⟨g, rfl, hlast⟩ := h2.at init.length (by simp)
  have hlast' : w2.cell? ⟨g, init.length, none⟩ = some (.pointer (some ⟨c.a, 0, none⟩)) := by rw [hlast]; simp [nodeP]
  have c0 : w2.cell? ⟨w.heap.size, 0, none⟩ = some (.slice (some ⟨g, 0, none⟩) (init.length + 1) cap) := by rw [cell_of_blk h1]; rfl
  have hcap : init.length + 1 ≤ cap := by
    rcases h2.2 with ⟨he, _⟩ | ⟨g', cap', cur, he, _, _, hnc, _⟩
    · cases he
    · simp only [Value.slice.injEq] at he
      obtain ⟨_, _, rfl⟩ := he
      simpa using hnc
  have HK : Hid (KidsAt R w2 (some ⟨g, 0, none⟩) init) := by
    intro i hi
    obtain ⟨g', hg', hc'⟩ := h2.at i (by simp; omega)
    simp only [Option.some.injEq, Addr.mk.injEq] at hg'
    obtain ⟨rfl, _, _⟩ := hg'
    refine ⟨_, _, rfl, ?_, fun e => by have h8 := hR _ e; have h9 : w.heap.size + 1 ≤ _ := (h2.lt _ rfl).1; exact absurd (Nat.lt_of_lt_of_le (Nat.lt_succ_self _) h9) (Nat.not_lt.2 h8)⟩
    rw [Nat.zero_add, hc', List.getElem_map, List.getElem_append_left hi]
    rfl
  have HB : Hid (Below w.heap.size w w2) := hI.below
  have hgl : g < w2.heap.size := World.block_lt_of_cell? w2 _ hlast'
  clear hI h1 h2 hlast hlen
  go_wp2
  go_quiet (fail)
  go_wp2
  go_ret2
  exact ⟨g, cap, rfl, ⟨HB.out.os, HB.out.tape, HB.out.output, HB.out.size, HB.out.block⟩, HK.out, hgl⟩

/-- An owned slice of nodes reads as a slice of nodes. -/
theorem own_slice {w : World} {B : Nat} {v : Value} {ks : List Tr} (hR : ∀ b, R b → b < B) (h : OwnV w B 96 v (ks.map nodeP)) : ∃ x : SlV, v = x.val ∧ x.ks = ks ∧ x.At R w := by
  rcases h.2 with ⟨hv, h0⟩ | ⟨g, cap, cur, hv, hb, hg, hnc, r⟩
  · have : ks = [] := List.length_eq_zero_iff.1 (by simpa using h0)
    subst this
    exact ⟨⟨none, 0, []⟩, hv, rfl, fun i hi => by simp at hi, Nat.le_refl _, fun _ => rfl⟩
  · subst hv
    refine ⟨⟨some ⟨g, 0, none⟩, cap, ks⟩, by simp [SlV.val], rfl, ?_, by simpa using hnc, fun e => by cases e⟩
    intro i hi
    obtain ⟨g', hg', hc⟩ := h.at i (by simpa using hi)
    simp only [Option.some.injEq, Addr.mk.injEq] at hg'
    obtain ⟨rfl, _, _⟩ := hg'
    refine ⟨_, _, rfl, ?_, fun e => by have h8 := hR _ e; have h9 : B ≤ _ := (h.lt _ rfl).1; exact absurd h8 (Nat.not_lt.2 h9)⟩
    rw [Nat.zero_add, hc, List.getElem_map]
    rfl

set_option maxRecDepth 100000 in
set_option maxHeartbeats 1600000 in
theorem concat_calls (g c : Nat) (S : List SlV) (w : World) (hc0 : ∀ i (h : i < S.length), w.cell? ⟨g, i, none⟩ = some (.slice S[i].ao S[i].ks.length S[i].cap)) (hS : ∀ x ∈ S, x.At R w) (hl : (allOf S).length ≤ 1000) (hm : S.length ≤ 1000) (hR : ∀ b, R b → b < w.heap.size) :
    Calls Try.prog 80 #[.slice (some ⟨g, 0, none⟩) S.length c] w fun e w' => ∃ x : SlV, e = .returned x.val ∧ x.ks = allOf S ∧ x.At R w' ∧ Below w.heap.size w w' := by
  obtain ⟨i0, hi0, hz0, hz1, hz2⟩ := infoOf infoPN
  have HC : Hid (∀ i (h : i < S.length), w.cell? ⟨g, i, none⟩ = some (.slice S[i].ao S[i].ks.length S[i].cap)) := hc0
  clear hc0
  go_enter Try.func80, Try.ntmps80
  go_wp2
  go_loop [3, 11] (fun n i => ∃ j : Nat, j ≤ S.length ∧ i = .int .i64 j ∧ n = .int .i64 ((allOf (S.take j)).length : Int)) (fun _ i => S.length - (intOf i).toNat)
  case atStart => exact ⟨0, Nat.zero_le _, rfl, rfl⟩
  case round =>
    obtain ⟨j, hj, rfl, rfl⟩ := hrel
    have hle := allOf_take_le S j
    by_cases hlt : j < S.length
    · have hcj := HC.out j hlt
      have hle2 := allOf_at_le S j hlt
      have HSN : Hid ((allOf (S.take (j + 1))).length = (allOf (S.take j)).length + S[j].ks.length) := by show _ = _; rw [allOf_snoc S j hlt]; simp
      go_wp2
      go_round
      case rel => exact ⟨j + 1, by omega, by go_num, by rw [HSN.out]; go_num⟩
      case measure => simp [intOf]; omega
    · have hjl : j = S.length := by omega
      subst hjl
      rw [List.take_length]
      have HG := grow_calls (allOf S).length w hl
      go_wp2_with fail
      refine HG.mono ?_
      clear HG
      rintro e w1 ⟨v, rfl, ho, hb1, ao0, cap0, hv⟩
      subst hv
      have HO : Hid (OwnV w1 w.heap.size 96 (.slice ao0 0 cap0) []) := ho
      have HB1 : Hid (Below w.heap.size w w1) := hb1
      clear ho hb1
      go_wp2
      go_loopw [6, 27] (fun x i wr => ∃ (q : Nat) (y : Value), y = x ∧ q ≤ S.length ∧ i = .int .i64 q ∧ Hid (OwnV wr w.heap.size 96 x ((allOf (S.take q)).map nodeP)) ∧ Hid (Below w.heap.size w wr)) (fun _ i _ => S.length - (intOf i).toNat)
      case atStart => exact ⟨0, _, rfl, Nat.zero_le _, rfl, by show OwnV _ _ _ _ _; simpa [allOf] using HO.out, HB1⟩
      case round =>
        obtain ⟨q, x, rfl, hq, rfl, HX, HB⟩ := hrel
        by_cases hlt2 : q < S.length
        · have hcq := HC.out q hlt2
          have hlq := allOf_at_le S q hlt2
          have hAt := (hS _ (List.getElem_mem hlt2)).below HB.out
          have hBs := HB.out.size
          have hg0 : g < w.heap.size := World.block_lt_of_cell? w _ hcq
          have hcq' : wr.cell? ⟨g, q, none⟩ = some (.slice S[q].ao S[q].ks.length S[q].cap) := by rw [HB.out.cell (by exact hg0)]; exact hcq
          have HSN : Hid (allOf (S.take (q + 1)) = allOf (S.take q) ++ S[q].ks) := allOf_snoc S q hlt2
          have HLQ : Hid ((allOf (S.take q)).length + S[q].ks.length ≤ (allOf S).length) := hlq
          clear hcq
          revert hcq' hAt HSN HLQ hlq
          generalize S[q] = y
          intro hlq hAt hcq' HSN HLQ
          obtain ⟨yao, ycap, yks⟩ := y
          simp only at hcq' hlq HSN
          cases yao with
          | none =>
            have hn0 := hAt.nil rfl
            simp only at hn0
            subst hn0
            have hk0 : yks = [] := List.length_eq_zero_iff.1 (by have := hAt.room; simpa using this)
            subst hk0
            simp only [List.length_nil] at hcq'
            clear hAt hlq
            go_wp2_with (at_builtin; refine wpList_append_own_none rfl (.tmp 31) (.tmp 32) 104 rfl w.heap.size 96 i0 1 Try.underlying104 hi0 _ _ _ rfl HX.out rfl ?_)
            go_roundw
            case rel => exact ⟨q + 1, _, rfl, by omega, by go_num, by show OwnV _ _ _ _ _; rw [HSN.out]; simpa using HX.out, HB⟩
            case measure => simp [intOf]; omega
          | some ad =>
            have hnews : ∀ j u, (yks.map nodeP)[j]? = some u → wr.cell? (ad.add j) = some u := by
              rcases Nat.lt_or_ge 0 yks.length with h0 | h0
              · obtain ⟨b, off, he, _⟩ := hAt.kids 0 h0
                simp only [Option.some.injEq] at he
                subst he
                exact kids_news hAt.kids
              · have : yks = [] := List.length_eq_zero_iff.1 (by omega)
                subst this
                intro j u hj
                simp at hj
            clear hAt
            go_wp2_with (at_builtin; refine wpList_append_grew _ rfl (.tmp 31) (.tmp 32) 104 rfl w.heap.size 96 i0 (.pointer none) 1 8 Try.underlying104 hi0 hz0 hz1 hz2 rfl (by decide) _ _ _ rfl HX.out ad yks.length ycap (yks.map nodeP) rfl (by simp) hnews (by intro u hu; obtain ⟨t, _, rfl⟩ := List.mem_map.1 hu; rfl) (by unfold maxLen; simp; omega) (by simp; omega) hBs ?_)
            intro v1 w2 ho2 hg2 _
            have HX2 : Hid (OwnV w2 w.heap.size 96 v1 ((allOf (S.take (q + 1))).map nodeP)) := by
              show OwnV _ _ _ _ _
              rw [HSN.out, List.map_append]
              have e : (List.map nodeP (allOf (S.take q)) ++ yks.map nodeP).length = (allOf (S.take q)).length + yks.length := by simp
              unfold OwnV
              rw [e]
              exact ho2
            have HB2 : Hid (Below w.heap.size w w2) := HB.out.trans (hg2.toBelow hBs (fun k hk => (HX.out.lt k hk).1))
            clear ho2 hg2 hnews
            go_wp2
            go_roundw
            case rel => exact ⟨q + 1, _, rfl, by omega, by go_num, HX2, HB2⟩
            case measure => simp [intOf]; omega
        · have hql : q = S.length := by omega
          subst hql
          go_wp2
          go_ret
          have h1 := HX.out
          rw [List.take_length] at h1
          obtain ⟨y, rfl, hy, hAt⟩ := own_slice hR h1
          exact ⟨y, rfl, hy, hAt, HB.out⟩

theorem sizePN (W : World) : (Go.sizeOf 96).run Try.prog W = .ok 1 W := by
  obtain ⟨i0, hi, hz0, hz1, hz2⟩ := infoOf infoPN
  simp [Go.sizeOf, typeInfo, hi, hz1]

theorem elemPN : Try.prog.elem 104 = 96 := by kernel_rfl

theorem underPN : Try.prog.underlying 104 = some (.slice (Try.prog.elem 104)) := by rw [elemPN]; exact Try.underlying104

theorem run_upTo (x : SlV) (q : Nat) (hq : q ≤ x.ks.length) (hr : x.ks.length ≤ x.cap) (W : World) : (Instr.slice 104 (.slice x.ao x.ks.length x.cap) none (some (.int .i64 (q : Int))) none).run Try.prog W = .ok (.slice x.ao q x.cap) W := by
  rw [run_slice_h W 104 x.ao x.ks.length x.cap underPN .i64 (q : Int) (by omega) (by omega)]
  rw [elemPN, sizePN]
  simp [sliced, Result.andThen]
  intro _
  · cases x.ao with
    | none => rfl
    | some a => obtain ⟨b, o, s⟩ := a; cases s <;> simp [Addr.add]

theorem run_from (x : SlV) (q : Nat) (i : Int) (hi : i = (q : Int)) (hq : q ≤ x.ks.length) (W : World) : (Instr.slice 104 (.slice x.ao x.ks.length x.cap) (some (.int .i64 i)) none none).run Try.prog W = .ok (.slice (from_ x q).ao (from_ x q).ks.length (from_ x q).cap) W := by
  subst hi
  rw [run_slice_l W 104 x.ao x.ks.length x.cap underPN .i64 (q : Int) (by omega) (by omega)]
  rw [elemPN, sizePN]
  simp [sliced, Result.andThen, from_]

theorem TAt.slv {w : World} {t : Tr} (h : TAt R w t) : ∃ x : SlV, x.ks = t.ks ∧ x.At R w ∧ w.cell? ⟨t.a, 2, none⟩ = some (.slice x.ao x.ks.length x.cap) := by
  obtain ⟨ao, cap, -, -, c2, -, hk, hr, hn⟩ := h.cells
  exact ⟨⟨ao, cap, t.ks⟩, rfl, ⟨hk, hr, hn⟩, c2⟩

/-- A node laid anew. -/
theorem TAt.laid {w' : World} {p : ByteArray} {v : Option Vl} {x : SlV} {a g c : Nat} (hb : w'.heap[a]? = some (.cells #[.string p, .pointer (vptr v), x.val, .pointer (some ⟨g, 0, none⟩)] 132))
    (hx : x.At R w') (hv : ∀ y, v = some y → VAt w' y) (hg : WAt w' g c false) (hs : ∀ t ∈ x.ks, TAt R w' t) (hp : p.size ≤ 140737488351232) : TAt R w' (.nd a p v x.ks g) :=
  .mk hb hx.kids hv hg.wc hs hx.room hx.nil hp

theorem wk_concat (w w1 : World) (y x z : SlV) (q : Nat) (hb1 : Below w.heap.size w w1) (hy : y.At R w) (hx : x.At R w) (hz : ∀ W, y.At R W → z.At R W) (hq : q ≤ y.ks.length) (h1 : y.ks.length ≤ 256) (h2 : x.ks.length ≤ 2) (h3 : z.ks.length ≤ 256) (hR : ∀ b, R b → b < w.heap.size) :
    Calls Try.prog 80 #[.slice (some ⟨w1.heap.size, 0, none⟩) 3 3] (w1.drew.alloc (.cells #[.slice y.ao q y.cap, .slice x.ao x.ks.length x.cap, .slice z.ao z.ks.length z.cap] 104))
      fun e w3 => ∃ r : SlV, e = .returned (.slice r.ao r.ks.length r.cap) ∧ r.ks = y.ks.take q ++ x.ks ++ z.ks ∧ r.At R w3 ∧ Below w1.heap.size w1 w3 := by
  obtain ⟨W, HW⟩ : ∃ W, W = w1.drew.alloc (.cells #[.slice y.ao q y.cap, .slice x.ao x.ks.length x.cap, .slice z.ao z.ks.length z.cap] 104) := ⟨_, rfl⟩
  have hbW : Below w1.heap.size w1 W := by rw [HW]; exact ((Below.refl _ w1).drew).alloc (Nat.le_refl _) _
  have hblk : W.heap[w1.heap.size]? = some (.cells #[.slice y.ao q y.cap, .slice x.ao x.ks.length x.cap, .slice z.ao z.ks.length z.cap] 104) := by rw [HW]; exact heap_alloc_new w1.drew _
  rw [← HW]
  have hyW : y.At R W := (hy.below hb1).below hbW
  have hlen : (y.ks.take q).length = q := by simp; omega
  have := concat_calls w1.heap.size 3 [upTo y q, x, z] W (fun i hi => by
      rw [cell_of_blk hblk]
      match i, hi with
      | 0, _ => simp [upTo, Nat.min_eq_left hq]
      | 1, _ => simp
      | 2, _ => simp
      | n + 3, h => simp at h; omega) (fun v hv => by
      rcases List.mem_cons.1 hv with rfl | hv
      · exact hyW.upTo q
      rcases List.mem_cons.1 hv with rfl | hv
      · exact (hx.below hb1).below hbW
      · simp at hv; subst hv; exact hz W hyW) (by simp [allOf, upTo]; omega) (by simp) (fun b hb => by have h1 := hR b hb; have h2 := hb1.size; have h3 := hbW.size; omega)
  refine this.mono ?_
  rintro e w3 ⟨r, rfl, hr, hA, hb⟩
  exact ⟨r, rfl, by rw [hr]; simp [allOf, upTo], hA, hbW.trans (hb.mono hbW.size)⟩

theorem wk_end {w w1 w3 w4 : World} {t : Tr} {y x z r : SlV} {q q2 : Nat} (hb1 : Below w.heap.size w w1) (hb3 : Below w1.heap.size w1 w3) (hb4 : Below w3.heap.size w3 w4) (hr : r.ks = y.ks.take q ++ x.ks ++ z.ks) (hA : r.At R w3)
    (hn : w4.heap[w3.heap.size + 2]? = some (.cells #[.string t.p, .pointer (vptr t.v), .slice r.ao r.ks.length r.cap, .pointer (some ⟨w3.heap.size + 1, 0, none⟩)] 132)) (hw4 : WAt w4 (w3.heap.size + 1) w3.heap.size false)
    (hv : ∀ z, t.v = some z → VAt w z) (hs : ∀ c ∈ y.ks, TAt R w c) (hx : ∀ c ∈ x.ks, TAt R w c) (hz : ∀ c ∈ z.ks, TAt R w c) (hzk : z.ks = y.ks.drop q2) (hp : t.p.size ≤ 140737488351232) :
    ∃ a' g', Ending.returned (.pointer (some ⟨w3.heap.size + 2, 0, none⟩)) = .returned (.pointer (some ⟨a', 0, none⟩)) ∧ Below w.heap.size w w4 ∧ w.heap.size ≤ a' ∧ w.heap.size ≤ g' ∧ TAt R w4 (.nd a' t.p t.v (y.ks.take q ++ x.ks ++ y.ks.drop q2) g') := by
  have h13 : Below w.heap.size w w3 := hb1.trans (hb3.mono hb1.size)
  have h14 : Below w.heap.size w w4 := h13.trans (hb4.mono h13.size)
  have hsz := h13.size
  refine ⟨w3.heap.size + 2, w3.heap.size + 1, rfl, h14, by omega, by omega, ?_⟩
  rw [← hzk, ← hr]
  refine TAt.laid (c := w3.heap.size) hn (hA.below hb4) (fun y hy => (hv y hy).below h14) hw4 ?_ hp
  intro c hc
  rw [hr] at hc
  simp only [List.mem_append] at hc
  rcases hc with (hc | hc) | hc
  · exact (hs c (List.mem_of_mem_take hc)).keep h14
  · exact (hx c hc).keep h14
  · exact (hz c hc).keep h14

set_option maxRecDepth 100000 in
set_option maxHeartbeats 1600000 in
theorem withKids_calls (t : Tr) (k : ByteArray) (x : SlV) (w : World) (h : TAt R w t) (hw : WF t) (hk : t.p.size < k.size) (hks : k.size ≤ 140737488351232) (hx : x.At R w) (hxl : x.ks.length ≤ 2) (hxT : ∀ c ∈ x.ks, TAt R w c) (hR : ∀ b, R b → b < w.heap.size) :
    Calls Try.prog 44 #[.pointer (some ⟨t.a, 0, none⟩), .string k, .slice x.ao x.ks.length x.cap] w fun e w' => ∃ a' g', e = .returned (.pointer (some ⟨a', 0, none⟩)) ∧ Below w.heap.size w w' ∧ w.heap.size ≤ a' ∧ w.heap.size ≤ g' ∧
      TAt R w' (.nd a' t.p t.v (t.ks.take (posn t.ks t.p.size k[t.p.size]) ++ x.ks ++ t.ks.drop (behindOf t k hk)) g') := by
  obtain ⟨ao, cap, c0, c1, -, -, -, -, -⟩ := h.cells
  obtain ⟨y, hy, hyA, c2⟩ := h.slv
  have HT := toward_at t k w h hw hk hks
  have ha := h.lt
  have hfew := hw.few
  have hpsz := h.psz'
  have hple := posn_le t.ks t.p.size k[t.p.size]
  have HV : Hid (∀ z, t.v = some z → VAt w z) := h.val'
  have HSUB : Hid (∀ c ∈ t.ks, TAt R w c) := h.sub'
  have HXT : Hid (∀ c ∈ x.ks, TAt R w c) := hxT
  have HXA : Hid (x.At R w) := hx
  have HYA : Hid (y.At R w) := hyA
  cases hth : thereB t.ks t.p.size k[t.p.size] with
  | false =>
    have hbh : behindOf t k hk = posn t.ks t.p.size k[t.p.size] := by unfold behindOf; rw [hth]; rfl
    rw [hbh]
    rw [hth] at HT
    clear hbh hth h hw hyA hxT hx
    revert HT hple
    generalize posn t.ks t.p.size k[t.p.size] = q
    intro HT hple
    rw [← hy] at hple hfew
    have hs1 := run_upTo y q hple HYA.out.room
    have hs2 := run_from y q (q : Int) rfl hple
    rw [← hy]
    rw [← hy] at HSUB
    clear hy
    obtain ⟨z, HZ⟩ : ∃ z, Hid (z = from_ y q) := ⟨_, rfl⟩
    rw [← HZ.out] at hs2
    have HZA : Hid (∀ W, y.At R W → z.At R W) := fun W hW => by rw [HZ.out]; exact hW.from_ q
    have HZK : Hid (z.ks = y.ks.drop q) := by show z.ks = _; rw [HZ.out]; rfl
    go_enter Try.func44, Try.ntmps44
    go_wp2_with fail
    refine HT.mono ?_
    clear HT
    rintro e w1 ⟨rfl, hb1⟩
    have c0' : w1.cell? ⟨t.a, 0, none⟩ = some (.string t.p) := by rw [hb1.cell (by exact ha)]; exact c0
    have c1' : w1.cell? ⟨t.a, 1, none⟩ = some (.pointer (vptr t.v)) := by rw [hb1.cell (by exact ha)]; exact c1
    have c2' : w1.cell? ⟨t.a, 2, none⟩ = some (.slice y.ao y.ks.length y.cap) := by rw [hb1.cell (by exact ha)]; exact c2
    have HB1 : Hid (Below w.heap.size w w1) := hb1
    clear hb1 c0 c1 c2
    have HCC := wk_concat w w1 y x z q HB1.out HYA.out HXA.out HZA.out hple hfew hxl (by rw [HZK.out]; simp; omega) hR
    have ha1 : t.a < w1.heap.size := Nat.lt_of_lt_of_le ha HB1.out.size
    go_wp2
    go_region_held3 (fun W => W.cell? ⟨t.a, 0, none⟩ = some (.string t.p) ∧ W.cell? ⟨t.a, 1, none⟩ = some (.pointer (vptr t.v)) ∧ W.cell? ⟨t.a, 2, none⟩ = some (.slice y.ao y.ks.length y.cap)) (first | (exact q4) | (exact q3) | go_keep)
      (first
        | (go_at_call 80
           refine HCC.mono ?_
           rintro e w3 ⟨r, rfl, hrk, hrA, hb3⟩
           have q3 : w3.cell? ⟨t.a, 0, none⟩ = some (.string t.p) ∧ w3.cell? ⟨t.a, 1, none⟩ = some (.pointer (vptr t.v)) ∧ w3.cell? ⟨t.a, 2, none⟩ = some (.slice y.ao y.ks.length y.cap) := ⟨by rw [hb3.cell (by exact ha1)]; exact c0', by rw [hb3.cell (by exact ha1)]; exact c1', by rw [hb3.cell (by exact ha1)]; exact c2'⟩
           have HR : Hid (r.ks = y.ks.take q ++ x.ks ++ z.ks ∧ r.At R w3 ∧ Below w1.heap.size w1 w3) := ⟨hrk, hrA, hb3⟩
           have ha3 : t.a < w3.heap.size := Nat.lt_of_lt_of_le ha1 hb3.size
           clear HCC hrk hrA hb3)
        | (go_at_call 38
           refine (newNode_calls _ _ _ _ _ _).mono ?_
           rintro e w4 ⟨rfl, hb4, hs4, hn4, hw4⟩
           have q4 : w4.cell? ⟨t.a, 0, none⟩ = some (.string t.p) ∧ w4.cell? ⟨t.a, 1, none⟩ = some (.pointer (vptr t.v)) ∧ w4.cell? ⟨t.a, 2, none⟩ = some (.slice y.ao y.ks.length y.cap) := ⟨by rw [hb4.cell (by exact ha3)]; exact q3.1, by rw [hb4.cell (by exact ha3)]; exact q3.2.1, by rw [hb4.cell (by exact ha3)]; exact q3.2.2⟩
           have HN : Hid (Below w3.heap.size w3 w4 ∧ w4.heap[w3.heap.size + 2]? = some (.cells #[.string t.p, .pointer (vptr t.v), .slice r.ao r.ks.length r.cap, .pointer (some ⟨w3.heap.size + 1, 0, none⟩)] 132) ∧ WAt w4 (w3.heap.size + 1) w3.heap.size false) := ⟨hb4, hn4, hw4⟩
           clear hb4 hs4 hn4 hw4))
    go_wp2
    go_ret
    obtain ⟨hrk, hrA, hb3⟩ := HR.out
    obtain ⟨hb4, hn4, hw4⟩ := HN.out
    exact wk_end HB1.out hb3 hb4 hrk hrA hn4 hw4 HV.out HSUB.out HXT.out (by rw [HZK.out]; exact fun c hc => HSUB.out c (List.mem_of_mem_drop hc)) HZK.out hpsz
  | true =>
    have hbh : behindOf t k hk = posn t.ks t.p.size k[t.p.size] + 1 := by unfold behindOf; rw [hth]; rfl
    obtain ⟨hlt0, -⟩ := there_true hk hth
    rw [hbh]
    rw [hth] at HT
    clear hbh hth h hw hyA hxT hx
    revert HT hple hlt0
    generalize posn t.ks t.p.size k[t.p.size] = q
    intro HT hple hlt0
    rw [← hy] at hple hfew hlt0
    have hs1 := run_upTo y q hple HYA.out.room
    have hs2 := run_from y (q + 1) ((q : Int) + 1) (by omega) hlt0
    rw [← hy]
    rw [← hy] at HSUB
    clear hy
    obtain ⟨z, HZ⟩ : ∃ z, Hid (z = from_ y (q + 1)) := ⟨_, rfl⟩
    rw [← HZ.out] at hs2
    have HZA : Hid (∀ W, y.At R W → z.At R W) := fun W hW => by rw [HZ.out]; exact hW.from_ (q + 1)
    have HZK : Hid (z.ks = y.ks.drop (q + 1)) := by show z.ks = _; rw [HZ.out]; rfl
    go_enter Try.func44, Try.ntmps44
    go_wp2_with fail
    refine HT.mono ?_
    clear HT
    rintro e w1 ⟨rfl, hb1⟩
    have c0' : w1.cell? ⟨t.a, 0, none⟩ = some (.string t.p) := by rw [hb1.cell (by exact ha)]; exact c0
    have c1' : w1.cell? ⟨t.a, 1, none⟩ = some (.pointer (vptr t.v)) := by rw [hb1.cell (by exact ha)]; exact c1
    have c2' : w1.cell? ⟨t.a, 2, none⟩ = some (.slice y.ao y.ks.length y.cap) := by rw [hb1.cell (by exact ha)]; exact c2
    have HB1 : Hid (Below w.heap.size w w1) := hb1
    clear hb1 c0 c1 c2
    have HCC := wk_concat w w1 y x z q HB1.out HYA.out HXA.out HZA.out hple hfew hxl (by rw [HZK.out]; simp; omega) hR
    have ha1 : t.a < w1.heap.size := Nat.lt_of_lt_of_le ha HB1.out.size
    go_wp2
    go_region_held3 (fun W => W.cell? ⟨t.a, 0, none⟩ = some (.string t.p) ∧ W.cell? ⟨t.a, 1, none⟩ = some (.pointer (vptr t.v)) ∧ W.cell? ⟨t.a, 2, none⟩ = some (.slice y.ao y.ks.length y.cap)) (first | (exact q4) | (exact q3) | go_keep)
      (first
        | (go_at_call 80
           refine HCC.mono ?_
           rintro e w3 ⟨r, rfl, hrk, hrA, hb3⟩
           have q3 : w3.cell? ⟨t.a, 0, none⟩ = some (.string t.p) ∧ w3.cell? ⟨t.a, 1, none⟩ = some (.pointer (vptr t.v)) ∧ w3.cell? ⟨t.a, 2, none⟩ = some (.slice y.ao y.ks.length y.cap) := ⟨by rw [hb3.cell (by exact ha1)]; exact c0', by rw [hb3.cell (by exact ha1)]; exact c1', by rw [hb3.cell (by exact ha1)]; exact c2'⟩
           have HR : Hid (r.ks = y.ks.take q ++ x.ks ++ z.ks ∧ r.At R w3 ∧ Below w1.heap.size w1 w3) := ⟨hrk, hrA, hb3⟩
           have ha3 : t.a < w3.heap.size := Nat.lt_of_lt_of_le ha1 hb3.size
           clear HCC hrk hrA hb3)
        | (go_at_call 38
           refine (newNode_calls _ _ _ _ _ _).mono ?_
           rintro e w4 ⟨rfl, hb4, hs4, hn4, hw4⟩
           have q4 : w4.cell? ⟨t.a, 0, none⟩ = some (.string t.p) ∧ w4.cell? ⟨t.a, 1, none⟩ = some (.pointer (vptr t.v)) ∧ w4.cell? ⟨t.a, 2, none⟩ = some (.slice y.ao y.ks.length y.cap) := ⟨by rw [hb4.cell (by exact ha3)]; exact q3.1, by rw [hb4.cell (by exact ha3)]; exact q3.2.1, by rw [hb4.cell (by exact ha3)]; exact q3.2.2⟩
           have HN : Hid (Below w3.heap.size w3 w4 ∧ w4.heap[w3.heap.size + 2]? = some (.cells #[.string t.p, .pointer (vptr t.v), .slice r.ao r.ks.length r.cap, .pointer (some ⟨w3.heap.size + 1, 0, none⟩)] 132) ∧ WAt w4 (w3.heap.size + 1) w3.heap.size false) := ⟨hb4, hn4, hw4⟩
           clear hb4 hs4 hn4 hw4))
    go_wp2
    go_ret
    obtain ⟨hrk, hrA, hb3⟩ := HR.out
    obtain ⟨hb4, hn4, hw4⟩ := HN.out
    exact wk_end HB1.out hb3 hb4 hrk hrA hn4 hw4 HV.out HSUB.out HXT.out (by rw [HZK.out]; exact fun c hc => HSUB.out c (List.mem_of_mem_drop hc)) HZK.out hpsz

set_option maxRecDepth 100000 in
set_option maxHeartbeats 1600000 in
theorem reverse2_calls (A B : Option Addr) (g c : Nat) (w : World) (hg : w.heap[g]? = some (.cells #[.pointer A, .pointer B] 96)) :
    Calls Try.prog 102 #[.slice (some ⟨g, 0, none⟩) 2 c] w fun e w' => e = .returned (.tuple #[]) ∧ w'.heap[g]? = some (.cells #[.pointer B, .pointer A] 96) ∧ Below g w w' := by
  have c0 : w.cell? ⟨g, 0, none⟩ = some (.pointer A) := by rw [cell_of_blk hg]; rfl
  have c1 : w.cell? ⟨g, 1, none⟩ = some (.pointer B) := by rw [cell_of_blk hg]; rfl
  have z0 : w.frozen? ⟨g, 0, none⟩ = false := frozen_of_blk hg
  have z1 : w.frozen? ⟨g, 1, none⟩ = false := frozen_of_blk hg
  have HG : Hid (w.heap[g]? = some (.cells #[.pointer A, .pointer B] 96)) := hg
  clear hg
  go_enter Try.func102, Try.ntmps102
  go_wp2
  go_loopw [2, 3] (fun i j wr => (i = .int .i64 0 ∧ j = .int .i64 1 ∧ wr = w) ∨ (i = .int .i64 1 ∧ j = .int .i64 0 ∧ Hid (wr.heap[g]? = some (.cells #[.pointer B, .pointer A] 96) ∧ Below g w wr))) (fun i _ _ => 1 - (intOf i).toNat)
  case atStart => exact .inl ⟨rfl, rfl, rfl⟩
  case round =>
    rcases hrel with ⟨rfl, rfl, rfl⟩ | ⟨rfl, rfl, HF⟩
    · go_wp2
      go_region
      all_goals go_wp2
      go_roundw
      case rel =>
        refine .inr ⟨rfl, rfl, ?_, ?_⟩
        · show ((wr.setCell ⟨g, 0, none⟩ (.pointer B)).setCell ⟨g, 1, none⟩ (.pointer A)).heap[g]? = _
          rw [setCell_blk (setCell_blk HG.out _)]
          simp
        · exact (((Below.refl g wr).setCell (p := ⟨g, 0, none⟩) (Nat.le_refl _) _).setCell (p := ⟨g, 1, none⟩) (Nat.le_refl _) _).drew
      case measure => simp [intOf]
    · go_wp2
      go_end0
      exact ⟨rfl, HF.out⟩

set_option maxRecDepth 100000 in
set_option maxHeartbeats 1600000 in
theorem joined_above (n : Tr) (k : ByteArray) (v : Vl) (w : World) (h : TAt R w n) (hv : VAt w v) (hks : k.size ≤ 140737488351232) (hlt : k.size < n.p.size) (hp : k.data.toList <+: n.path) (hR : ∀ b, R b → b < w.heap.size) :
    Calls Try.prog 78 #[.pointer (some ⟨n.a, 0, none⟩), .string k, .pointer (some ⟨v.a, 0, none⟩)] w fun e w' => ∃ T' : Tr, e = .returned (.pointer (some ⟨T'.a, 0, none⟩)) ∧ Below w.heap.size w w' ∧ TAt R w' T' ∧ JoinR w.heap.size k v n T' := by
  obtain ⟨ao, cap, c0, -, -, -, -, -, -⟩ := h.cells
  have HC := common_calls n.p k w h.psz' hks
  have hpz := h.psz'
  have HH : Hid (TAt R w n) := h
  have HV : Hid (VAt w v) := hv
  have HP : Hid (k.data.toList <+: n.path) := hp
  clear h hv hp
  go_enter Try.func78, Try.ntmps78
  go_wp2_with fail
  refine HC.mono ?_
  clear HC
  rintro e w1 ⟨m, rfl, hm1, hm2, hq1, hq2, hw1⟩
  have hmk : m = k.size := by
    rcases Nat.lt_or_ge m k.size with hc | hc
    · have := hq2 (by omega) hc
      refine absurd ?_ this
      obtain ⟨r, hr⟩ := HP.out
      have e1 : n.p[m] = n.path[m]'(by rw [path_length]; omega) := rfl
      have e2 : k[m] = k.data.toList[m]'(by simpa using hc) := rfl
      rw [e1, e2]
      simp only [← hr]
      rw [List.getElem_append_left]
    · omega
  subst hmk
  have HB1 : Hid (Below w.heap.size w w1) := by obtain ⟨d, rfl⟩ := hw1; exact ⟨rfl, rfl, rfl, Nat.le_refl _, fun _ _ => rfl⟩
  clear hq1 hq2 hw1 c0
  go_wp2_with fail
  refine (clone_calls k w1 (by omega)).mono ?_
  rintro e w2 ⟨rfl, hb2⟩
  have HB2 : Hid (Below w1.heap.size w1 w2) := hb2
  clear hb2
  go_wp2_with fail
  refine (newNode_calls _ _ _ _ _ _).mono ?_
  rintro e w3 ⟨rfl, hb3, hs3, hn3, hw3⟩
  have HN : Hid (Below (w2.heap.size + 1) (w2.alloc (.cells #[.pointer (some ⟨n.a, 0, none⟩)] 96)) w3 ∧ w3.heap[w2.heap.size + 1 + 2]? = some (.cells #[.string k, .pointer (some ⟨v.a, 0, none⟩), .slice (some ⟨w2.heap.size, 0, none⟩) 1 1, .pointer (some ⟨w2.heap.size + 1 + 1, 0, none⟩)] 132) ∧ WAt w3 (w2.heap.size + 1 + 1) (w2.heap.size + 1) false) := by
    simp only [World.size_alloc] at hb3 hn3 hw3
    exact ⟨hb3, hn3, hw3⟩
  clear hb3 hs3 hn3 hw3
  go_wp2
  go_ret
  obtain ⟨hb3, hn3, hw3⟩ := HN.out
  have h02 : Below w.heap.size w w2 := HB1.out.trans (HB2.out.mono HB1.out.size)
  have hba : Below w.heap.size w (w2.alloc (.cells #[.pointer (some ⟨n.a, 0, none⟩)] 96)) := h02.alloc h02.size _
  have h03 : Below w.heap.size w w3 := hba.trans (hb3.mono (by have := h02.size; omega))
  have hsz := h02.size
  have hcell : w3.cell? ⟨w2.heap.size, 0, none⟩ = some (.pointer (some ⟨n.a, 0, none⟩)) := by
    rw [hb3.cell (by show w2.heap.size < w2.heap.size + 1; omega), World.cell?_alloc_mark]; rfl
  refine ⟨.nd (w2.heap.size + 1 + 2) k (some v) [n] (w2.heap.size + 1 + 1), rfl, h03, ?_, .above (by omega) (by omega) HP.out hlt⟩
  refine TAt.laid (x := ⟨some ⟨w2.heap.size, 0, none⟩, 1, [n]⟩) hn3 ⟨?_, by simp, fun e => by cases e⟩ (fun y hy => by cases hy; exact HV.out.below h03) hw3 (fun t ht => by simp at ht; subst ht; exact HH.out.keep h03) hks
  intro i hi
  simp at hi
  subst hi
  exact ⟨_, _, rfl, hcell, fun e => by have := hR _ e; omega⟩

theorem pair_kids {w : World} {g : Nat} {A B : Tr} (hg : ¬ R g) (h : w.heap[g]? = some (.cells #[.pointer (some ⟨A.a, 0, none⟩), .pointer (some ⟨B.a, 0, none⟩)] 96)) : SlV.At R w ⟨some ⟨g, 0, none⟩, 2, [A, B]⟩ := by
  refine ⟨?_, by simp, fun e => by cases e⟩
  intro i hi
  refine ⟨g, 0, rfl, ?_, hg⟩
  rw [cell_of_blk h]
  match i, hi with
  | 0, _ => rfl
  | 1, _ => rfl
  | n + 2, h => simp at h; omega

set_option maxRecDepth 100000 in
set_option maxHeartbeats 3200000 in
theorem joined_beside (n : Tr) (k : ByteArray) (v : Vl) (w : World) (h : TAt R w n) (hv : VAt w v) (hks : k.size ≤ 140737488351232) (hnp : ¬ n.path <+: k.data.toList) (hkp : ¬ k.data.toList <+: n.path) (hR : ∀ b, R b → b < w.heap.size) :
    Calls Try.prog 78 #[.pointer (some ⟨n.a, 0, none⟩), .string k, .pointer (some ⟨v.a, 0, none⟩)] w fun e w' => ∃ T' : Tr, e = .returned (.pointer (some ⟨T'.a, 0, none⟩)) ∧ Below w.heap.size w w' ∧ TAt R w' T' ∧ JoinR w.heap.size k v n T' := by
  obtain ⟨ao, cap, c0, -, -, -, -, -, -⟩ := h.cells
  have HC := common_calls n.p k w h.psz' hks
  have hpz := h.psz'
  have hna := h.lt
  have HH : Hid (TAt R w n) := h
  have HV : Hid (VAt w v) := hv
  have HP : Hid (¬ n.path <+: k.data.toList ∧ ¬ k.data.toList <+: n.path) := ⟨hnp, hkp⟩
  clear h hv hnp hkp
  go_enter Try.func78, Try.ntmps78
  go_wp2_with fail
  refine HC.mono ?_
  clear HC
  rintro e w1 ⟨m, rfl, hm1, hm2, hq1, hq2, hw1⟩
  have het := take_eq_of hm1 hm2 hq1
  obtain ⟨hma, hmk⟩ := common_mid hm1 hm2 het HP.out.1 HP.out.2
  have HNE : Hid (n.p[m] ≠ k[m]) := hq2 hma hmk
  have HET : Hid (k.data.toList.take m = n.path.take m) := het
  have HB1 : Hid (Below w.heap.size w w1) := by obtain ⟨d, rfl⟩ := hw1; exact ⟨rfl, rfl, rfl, Nat.le_refl _, fun _ _ => rfl⟩
  have hneq : ((m : Int) == (k.size : Int)) = false := by rw [beq_eq_false_iff_ne]; omega
  clear hq1 hq2 hw1 het
  go_wp2_with fail
  refine (clone_calls k w1 (by omega)).mono ?_
  rintro e w2 ⟨rfl, hb2⟩
  have HB2 : Hid (Below w1.heap.size w1 w2) := hb2
  clear hb2
  go_wp2_with fail
  refine (newNode_calls _ _ _ _ _ w2).mono ?_
  rintro e w3 ⟨rfl, hb3, hs3, hn3, hw3⟩
  have HN : Hid (Below w2.heap.size w2 w3 ∧ w3.heap[w2.heap.size + 2]? = some (.cells #[.string k, .pointer (some ⟨v.a, 0, none⟩), .slice none 0 0, .pointer (some ⟨w2.heap.size + 1, 0, none⟩)] 132) ∧ WAt w3 (w2.heap.size + 1) w2.heap.size false) := ⟨hb3, hn3, hw3⟩
  have h02 : Below w.heap.size w w2 := HB1.out.trans (HB2.out.mono HB1.out.size)
  have h03 : Below w.heap.size w w3 := h02.trans (hb3.mono h02.size)
  obtain ⟨w4, HW4⟩ : ∃ w4, Hid (w4 = w3.alloc (.cells #[.pointer (some ⟨n.a, 0, none⟩), .pointer (some ⟨w2.heap.size + 2, 0, none⟩)] 96)) := ⟨_, rfl⟩
  have h34 : Below w3.heap.size w3 w4 := by rw [HW4.out]; exact (Below.refl _ _).alloc (Nat.le_refl _) _
  have h04 : Below w.heap.size w w4 := h03.trans (h34.mono h03.size)
  have hblk : w4.heap[w3.heap.size]? = some (.cells #[.pointer (some ⟨n.a, 0, none⟩), .pointer (some ⟨w2.heap.size + 2, 0, none⟩)] 96) := by rw [HW4.out]; exact heap_alloc_new _ _
  have hs4 : w4.heap.size = w3.heap.size + 1 := by rw [HW4.out]; simp [World.size_alloc]
  have hb3s := h03.size
  have hb2s := h02.size
  have c0' : w4.cell? ⟨n.a, 0, none⟩ = some (.string n.p) := by rw [h04.cell (by exact hna)]; exact c0
  -- the leaf, in every later world
  have HL : Hid (∀ W, Below w3.heap.size w3 W → TAt R W (.nd (w2.heap.size + 2) k (some v) [] (w2.heap.size + 1))) := fun W hW => by
    have h0W : Below w.heap.size w W := h03.trans (hW.mono h03.size)
    refine TAt.laid (x := ⟨none, 0, []⟩) (c := w2.heap.size) ?_ ⟨fun i hi => by simp at hi, Nat.le_refl _, fun _ => rfl⟩ (fun y hy => by cases hy; exact HV.out.below h0W) ?_ (fun t ht => by simp at ht) hks
    · rw [hW.block _ (lt_of_heap hn3)]; exact hn3
    · exact hw3.below hW
  have HF : Hid (Below w.heap.size w w3 ∧ Below w3.heap.size w3 w4 ∧ w4.heap[w3.heap.size]? = some (.cells #[.pointer (some ⟨n.a, 0, none⟩), .pointer (some ⟨w2.heap.size + 2, 0, none⟩)] 96)) := ⟨h03, h34, hblk⟩
  clear hb3 hs3 hn3 hw3 h02 h03 h34 h04 HN hblk c0
  by_cases hlt : k[m] < n.p[m]
  · have hlt' : (k[m].toNat : Int) < (n.p[m].toNat : Int) := u8_lt_int.2 hlt
    have HLT : Hid (k[m] < n.p[m]) := hlt
    clear hlt
    go_wp2
    rw [← HW4.out]
    go_quiet (fail)
    obtain ⟨w5, HW5⟩ : ∃ w5, Hid (w5 = w4.drewN nq) := ⟨_, rfl⟩
    have HF5 : Hid (Below w3.heap.size w3 w5 ∧ w5.heap[w3.heap.size]? = some (.cells #[.pointer (some ⟨n.a, 0, none⟩), .pointer (some ⟨w2.heap.size + 2, 0, none⟩)] 96)) := by
      have hf := HF.out
      refine ⟨?_, ?_⟩
      · rw [HW5.out]; exact ⟨hf.2.1.os, hf.2.1.tape, hf.2.1.output, hf.2.1.size, hf.2.1.block⟩
      · rw [HW5.out]; exact hf.2.2
    rw [← HW5.out]
    clear HW5 HW4 c0'
    go_wp2_with fail
    refine (reverse2_calls _ _ w3.heap.size 2 w5 HF5.out.2).mono ?_
    rintro e w6 ⟨rfl, hr6, hb6⟩
    have HF6 : Hid (Below w3.heap.size w3 w6 ∧ w6.heap[w3.heap.size]? = some (.cells #[.pointer (some ⟨w2.heap.size + 2, 0, none⟩), .pointer (some ⟨n.a, 0, none⟩)] 96)) := ⟨HF5.out.1.trans hb6, hr6⟩
    clear hr6 hb6 HF5
    go_wp2_with fail
    refine (clone_calls (k.extract 0 m) w6 (by simp [ByteArray.size_extract]; omega)).mono ?_
    rintro e w7 ⟨rfl, hb7⟩
    have HB7 : Hid (Below w6.heap.size w6 w7) := hb7
    clear hb7
    go_wp2_with fail
    refine (newNode_calls _ _ _ _ _ w7).mono ?_
    rintro e w8 ⟨rfl, hb8, hs8, hn8, hw8⟩
    have HN8 : Hid (Below w7.heap.size w7 w8 ∧ w8.heap[w7.heap.size + 2]? = some (.cells #[.string (k.extract 0 m), .pointer none, .slice (some ⟨w3.heap.size, 0, none⟩) 2 2, .pointer (some ⟨w7.heap.size + 1, 0, none⟩)] 132) ∧ WAt w8 (w7.heap.size + 1) w7.heap.size false) := ⟨hb8, hn8, hw8⟩
    clear hb8 hs8 hn8 hw8
    go_wp2
    go_ret
    obtain ⟨hb8, hn8, hw8⟩ := HN8.out
    have h36 := HF6.out.1
    have hg6 := HF6.out.2
    have h68 : Below w6.heap.size w6 w8 := HB7.out.trans (hb8.mono HB7.out.size)
    have h38 : Below w3.heap.size w3 w8 := h36.trans (h68.mono h36.size)
    have h08 : Below w.heap.size w w8 := HF.out.1.trans (h38.mono HF.out.1.size)
    have hz6 := h36.size
    have hz7 := HB7.out.size
    have hpair := pair_kids (A := .nd (w2.heap.size + 2) k (some v) [] (w2.heap.size + 1)) (B := n) (R := R) (fun e => by have := hR _ e; omega) ((h68.block _ (lt_of_heap hg6)).trans hg6)
    refine ⟨.nd (w7.heap.size + 2) (k.extract 0 m) none [.nd (w2.heap.size + 2) k (some v) [] (w2.heap.size + 1), n] (w7.heap.size + 1), rfl, h08, ?_,
      .less (by omega) (by omega) (by omega) (by omega) hmk hma HET.out (by rw [getD_key k m hmk, byte_get n m hma]; exact HLT.out)⟩
    refine TAt.laid (x := ⟨some ⟨w3.heap.size, 0, none⟩, 2, [.nd (w2.heap.size + 2) k (some v) [] (w2.heap.size + 1), n]⟩) hn8 hpair (fun y hy => by cases hy) hw8 (fun t ht => ?_) (by simp [ByteArray.size_extract]; omega)
    rcases List.mem_cons.1 ht with rfl | ht
    · exact HL.out w8 h38
    · simp at ht; subst ht; exact HH.out.keep h08
  · have hlt' : ¬ (k[m].toNat : Int) < (n.p[m].toNat : Int) := fun h => hlt (u8_lt_int.1 h)
    have HLT : Hid (n.p[m] < k[m]) := by
      rcases UInt8.lt_or_lt_of_ne HNE.out with h | h
      · exact h
      · exact absurd h hlt
    clear hlt
    go_wp2
    rw [← HW4.out]
    go_quiet (fail)
    obtain ⟨w5, HW5⟩ : ∃ w5, Hid (w5 = w4.drewN nq) := ⟨_, rfl⟩
    have HF5 : Hid (Below w3.heap.size w3 w5 ∧ w5.heap[w3.heap.size]? = some (.cells #[.pointer (some ⟨n.a, 0, none⟩), .pointer (some ⟨w2.heap.size + 2, 0, none⟩)] 96)) := by
      have hf := HF.out
      refine ⟨?_, ?_⟩
      · rw [HW5.out]; exact ⟨hf.2.1.os, hf.2.1.tape, hf.2.1.output, hf.2.1.size, hf.2.1.block⟩
      · rw [HW5.out]; exact hf.2.2
    rw [← HW5.out]
    clear HW5 HW4 c0'
    have HF6 := HF5
    clear HF5
    obtain ⟨w6, HW6⟩ : ∃ w6, Hid (w6 = w5) := ⟨_, rfl⟩
    rw [← HW6.out]
    rw [← HW6.out] at HF6
    clear HW6
    go_wp2_with fail
    refine (clone_calls (k.extract 0 m) w6 (by simp [ByteArray.size_extract]; omega)).mono ?_
    rintro e w7 ⟨rfl, hb7⟩
    have HB7 : Hid (Below w6.heap.size w6 w7) := hb7
    clear hb7
    go_wp2_with fail
    refine (newNode_calls _ _ _ _ _ w7).mono ?_
    rintro e w8 ⟨rfl, hb8, hs8, hn8, hw8⟩
    have HN8 : Hid (Below w7.heap.size w7 w8 ∧ w8.heap[w7.heap.size + 2]? = some (.cells #[.string (k.extract 0 m), .pointer none, .slice (some ⟨w3.heap.size, 0, none⟩) 2 2, .pointer (some ⟨w7.heap.size + 1, 0, none⟩)] 132) ∧ WAt w8 (w7.heap.size + 1) w7.heap.size false) := ⟨hb8, hn8, hw8⟩
    clear hb8 hs8 hn8 hw8
    go_wp2
    go_ret
    obtain ⟨hb8, hn8, hw8⟩ := HN8.out
    have h36 := HF6.out.1
    have hg6 := HF6.out.2
    have h68 : Below w6.heap.size w6 w8 := HB7.out.trans (hb8.mono HB7.out.size)
    have h38 : Below w3.heap.size w3 w8 := h36.trans (h68.mono h36.size)
    have h08 : Below w.heap.size w w8 := HF.out.1.trans (h38.mono HF.out.1.size)
    have hz6 := h36.size
    have hz7 := HB7.out.size
    have hpair := pair_kids (A := n) (B := .nd (w2.heap.size + 2) k (some v) [] (w2.heap.size + 1)) (R := R) (fun e => by have := hR _ e; omega) ((h68.block _ (lt_of_heap hg6)).trans hg6)
    refine ⟨.nd (w7.heap.size + 2) (k.extract 0 m) none [n, .nd (w2.heap.size + 2) k (some v) [] (w2.heap.size + 1)] (w7.heap.size + 1), rfl, h08, ?_,
      .more (by omega) (by omega) (by omega) (by omega) hmk hma HET.out (by rw [getD_key k m hmk, byte_get n m hma]; exact HLT.out)⟩
    refine TAt.laid (x := ⟨some ⟨w3.heap.size, 0, none⟩, 2, [n, .nd (w2.heap.size + 2) k (some v) [] (w2.heap.size + 1)]⟩) hn8 hpair (fun y hy => by cases hy) hw8 (fun t ht => ?_) (by simp [ByteArray.size_extract]; omega)
    rcases List.mem_cons.1 ht with rfl | ht
    · exact HH.out.keep h08
    · simp at ht; subst ht; exact HL.out w8 h38

theorem joined_calls (n : Tr) (k : ByteArray) (v : Vl) (w : World) (h : TAt R w n) (hv : VAt w v) (hks : k.size ≤ 140737488351232) (hnp : ¬ n.path <+: k.data.toList) (hR : ∀ b, R b → b < w.heap.size) :
    Calls Try.prog 78 #[.pointer (some ⟨n.a, 0, none⟩), .string k, .pointer (some ⟨v.a, 0, none⟩)] w fun e w' => ∃ T' : Tr, e = .returned (.pointer (some ⟨T'.a, 0, none⟩)) ∧ Below w.heap.size w w' ∧ TAt R w' T' ∧ JoinR w.heap.size k v n T' := by
  by_cases hkp : k.data.toList <+: n.path
  · refine joined_above n k v w h hv hks ?_ hkp hR
    have h1 := hkp.length_le
    rw [path_length] at h1
    rcases Nat.lt_or_ge k.size n.p.size with hc | hc
    · exact hc
    · refine absurd ?_ hnp
      have : k.data.toList = n.path := hkp.eq_of_length (by rw [path_length]; simp at h1 ⊢; omega)
      rw [this]
      exact List.prefix_refl _
  · exact joined_beside n k v w h hv hks hnp hkp hR

theorem one_kid {w : World} {g : Nat} {A : Tr} (hg : ¬ R g) (h : w.heap[g]? = some (.cells #[.pointer (some ⟨A.a, 0, none⟩)] 96)) : SlV.At R w ⟨some ⟨g, 0, none⟩, 1, [A]⟩ := by
  refine ⟨?_, by simp, fun e => by cases e⟩
  intro i hi
  simp at hi
  subst hi
  exact ⟨g, 0, rfl, by rw [cell_of_blk h]; rfl, hg⟩

set_option maxRecDepth 100000 in
set_option maxHeartbeats 1600000 in
theorem entry_here (t : Tr) (k : ByteArray) (v : Vl) (w : World) (h : TAt R w t) (hv : VAt w v) (hp : t.p.size = k.size) :
    Calls Try.prog 41 #[.pointer (some ⟨t.a, 0, none⟩), .string k, .pointer (some ⟨v.a, 0, none⟩)] w fun e w' => ∃ T' : Tr, e = .returned (.pointer (some ⟨T'.a, 0, none⟩)) ∧ Below w.heap.size w w' ∧ TAt R w' T' ∧ EntR w.heap.size k v t T' := by
  obtain ⟨ao, cap, c0, -, -, -, -, -, -⟩ := h.cells
  obtain ⟨y, hy, hyA, c2⟩ := h.slv
  have hpz := h.psz'
  have ha := h.lt
  have hpi : (t.p.size : Int) = (k.size : Int) := by omega
  have HH : Hid (TAt R w t) := h
  have HV : Hid (VAt w v) := hv
  have HY : Hid (y.ks = t.ks ∧ y.At R w) := ⟨hy, hyA⟩
  clear h hv hyA hy
  go_enter Try.func41, Try.ntmps41
  go_wp2
  go_region_held3 (fun W => W.cell? ⟨t.a, 0, none⟩ = some (.string t.p) ∧ W.cell? ⟨t.a, 2, none⟩ = some (.slice y.ao y.ks.length y.cap)) (first | (exact q3) | go_keep)
    (first
      | (go_at_call 38
         refine (newNode_calls _ _ _ _ _ w.drew).mono ?_
         rintro e w3 ⟨rfl, hb3, hs3, hn3, hw3⟩
         have q3 : w3.cell? ⟨t.a, 0, none⟩ = some (.string t.p) ∧ w3.cell? ⟨t.a, 2, none⟩ = some (.slice y.ao y.ks.length y.cap) := ⟨by rw [hb3.cell (by exact ha)]; exact c0, by rw [hb3.cell (by exact ha)]; exact c2⟩
         have HN : Hid (Below w.heap.size w w3 ∧ w3.heap[w.heap.size + 2]? = some (.cells #[.string t.p, .pointer (some ⟨v.a, 0, none⟩), .slice y.ao y.ks.length y.cap, .pointer (some ⟨w.heap.size + 1, 0, none⟩)] 132) ∧ WAt w3 (w.heap.size + 1) w.heap.size false) := ⟨⟨hb3.os, hb3.tape, hb3.output, hb3.size, hb3.block⟩, hn3, hw3⟩
         clear hb3 hs3 hn3 hw3))
  go_wp2
  go_ret
  obtain ⟨hb3, hn3, hw3⟩ := HN.out
  refine ⟨.nd (w.heap.size + 2) t.p (some v) t.ks (w.heap.size + 1), rfl, hb3, ?_, .here (by omega) (by omega) hp⟩
  rw [← HY.out.1]
  exact TAt.laid hn3 (HY.out.2.below hb3) (fun y hy => by cases hy; exact HV.out.below hb3) hw3 (fun c hc => by rw [HY.out.1] at hc; exact (HH.out.sub' c hc).keep hb3) hpz

set_option maxRecDepth 100000 in
set_option maxHeartbeats 1600000 in
theorem entry_leaf (t : Tr) (k : ByteArray) (v : Vl) (w : World) (h : TAt R w t) (hw : WF t) (hv : VAt w v) (hp : t.p.size < k.size) (hks : k.size ≤ 140737488351232) (hno : thereB t.ks t.p.size k[t.p.size] = false) (hR : ∀ b, R b → b < w.heap.size) :
    Calls Try.prog 41 #[.pointer (some ⟨t.a, 0, none⟩), .string k, .pointer (some ⟨v.a, 0, none⟩)] w fun e w' => ∃ T' : Tr, e = .returned (.pointer (some ⟨T'.a, 0, none⟩)) ∧ Below w.heap.size w w' ∧ TAt R w' T' ∧ EntR w.heap.size k v t T' := by
  have hnot : ∀ (x : Bool) (w : World), (Op.unary .not (.bool x)).run Try.prog w = .ok (.bool (!x)) w := fun _ _ => rfl
  obtain ⟨ao, cap, c0, -, -, -, -, -, -⟩ := h.cells
  have hpz := h.psz'
  have hpi : ¬ (t.p.size : Int) = (k.size : Int) := by omega
  have hpb : ((t.p.size : Int) == (k.size : Int)) = false := by simpa using hpi
  have HT := toward_at t k w h hw hp hks
  rw [hno] at HT
  have HH : Hid (TAt R w t) := h
  have HV : Hid (VAt w v) := hv
  have HWF : Hid (WF t) := hw
  have HNO : Hid (thereB t.ks t.p.size k[t.p.size] = false) := hno
  clear h hv hw hno
  go_enter Try.func41, Try.ntmps41
  go_wp2_with fail
  refine HT.mono ?_
  clear HT
  rintro e w1 ⟨rfl, hb1⟩
  have HB1 : Hid (Below w.heap.size w w1) := hb1
  clear hb1 c0
  go_wp2_with fail
  refine (clone_calls k w1 (by omega)).mono ?_
  rintro e w2 ⟨rfl, hb2⟩
  have HB2 : Hid (Below w.heap.size w w2) := HB1.out.trans (hb2.mono HB1.out.size)
  clear hb2
  go_wp2_with fail
  refine (newNode_calls _ _ _ _ _ w2).mono ?_
  rintro e w3 ⟨rfl, hb3, hs3, hn3, hw3⟩
  have h03 : Below w.heap.size w w3 := HB2.out.trans (hb3.mono HB2.out.size)
  have hleaf : TAt R w3 (.nd (w2.heap.size + 2) k (some v) [] (w2.heap.size + 1)) :=
    TAt.laid (x := ⟨none, 0, []⟩) hn3 ⟨fun i hi => by simp at hi, Nat.le_refl _, fun _ => rfl⟩ (fun y hy => by cases hy; exact HV.out.below h03) hw3 (fun t ht => by simp at ht) hks
  obtain ⟨w4, HW4⟩ : ∃ w4, Hid (w4 = w3.alloc (.cells #[.pointer (some ⟨w2.heap.size + 2, 0, none⟩)] 96)) := ⟨_, rfl⟩
  have h34 : Below w3.heap.size w3 w4 := by rw [HW4.out]; exact (Below.refl _ _).alloc (Nat.le_refl _) _
  have h04 : Below w.heap.size w w4 := h03.trans (h34.mono h03.size)
  have hblk : w4.heap[w3.heap.size]? = some (.cells #[.pointer (some ⟨w2.heap.size + 2, 0, none⟩)] 96) := by rw [HW4.out]; exact heap_alloc_new _ _
  have HK := withKids_calls t k ⟨some ⟨w3.heap.size, 0, none⟩, 1, [.nd (w2.heap.size + 2) k (some v) [] (w2.heap.size + 1)]⟩ w4 (HH.out.keep h04) HWF.out hp hks (one_kid (fun e => by have h1 := hR _ e; have h2 := h03.size; omega) hblk) (by simp) (fun c hc => by simp at hc; subst hc; exact hleaf.keep h34) (fun b hb => by have h1 := hR b hb; have h2 := h04.size; omega)
  have hz2 := HB2.out.size
  have HB4 : Hid (Below w.heap.size w w4) := h04
  clear hb3 hs3 hn3 hw3 h03 h34 h04 hleaf hblk
  go_wp2_with fail
  rw [← HW4.out]
  refine HK.mono ?_
  clear HK
  rintro e w5 ⟨a', g', rfl, hb5, ha5, hg5, hT5⟩
  have hz4 := HB4.out.size
  go_wp2
  go_ret
  refine ⟨_, rfl, HB4.out.trans (hb5.mono hz4), hT5, ?_⟩
  have hbh : behindOf t k hp = posn t.ks t.p.size k[t.p.size] := by unfold behindOf; rw [HNO.out]; rfl
  rw [hbh]
  exact .leaf (by omega) (by omega) (by omega) (by omega) hp HNO.out

set_option maxRecDepth 100000 in
set_option maxHeartbeats 1600000 in
theorem entry_join (t : Tr) (k : ByteArray) (v : Vl) (w : World) (h : TAt R w t) (hw : WF t) (hv : VAt w v) (hp : t.p.size < k.size) (hks : k.size ≤ 140737488351232) (hyes : thereB t.ks t.p.size k[t.p.size] = true) (hnx : nx t k.data.toList = none) (hR : ∀ b, R b → b < w.heap.size) :
    Calls Try.prog 41 #[.pointer (some ⟨t.a, 0, none⟩), .string k, .pointer (some ⟨v.a, 0, none⟩)] w fun e w' => ∃ T' : Tr, e = .returned (.pointer (some ⟨T'.a, 0, none⟩)) ∧ Below w.heap.size w w' ∧ TAt R w' T' ∧ EntR w.heap.size k v t T' := by
  have hnot : ∀ (x : Bool) (w : World), (Op.unary .not (.bool x)).run Try.prog w = .ok (.bool (!x)) w := fun _ _ => rfl
  obtain ⟨ao, cap, c0, -, c2, -, hkids, -, -⟩ := h.cells
  have hpz := h.psz'
  have ha := h.lt
  have hpi : ¬ (t.p.size : Int) = (k.size : Int) := by omega
  have hpb : ((t.p.size : Int) == (k.size : Int)) = false := by simpa using hpi
  have HT := toward_at t k w h hw hp hks
  rw [hyes] at HT
  obtain ⟨hq, hbyte⟩ := there_true hp hyes
  have hnp : ¬ t.ks[posn t.ks t.p.size k[t.p.size]].path <+: k.data.toList := fun hc => by
    have := nx_some hw hq hc
    rw [hnx] at this
    cases this
  have hbh : behindOf t k hp = posn t.ks t.p.size k[t.p.size] + 1 := by unfold behindOf; rw [hyes]; rfl
  obtain ⟨bb, off, rfl, hk0, -⟩ := hkids _ hq
  have hbl : bb < w.heap.size := World.block_lt_of_cell? w _ hk0
  have HH : Hid (TAt R w t) := h
  have HV : Hid (VAt w v) := hv
  have HWF : Hid (WF t) := hw
  obtain ⟨q, HQ⟩ : ∃ q, Hid (q = posn t.ks t.p.size k[t.p.size]) := ⟨posn t.ks t.p.size k[t.p.size], rfl⟩
  obtain ⟨c, HC⟩ : ∃ c, Hid (c = t.ks[posn t.ks t.p.size k[t.p.size]]) := ⟨t.ks[posn t.ks t.p.size k[t.p.size]], rfl⟩
  have hq' : q < t.ks.length := by rw [HQ.out]; exact hq
  have hk1 : w.cell? ⟨bb, off + q, none⟩ = some (.pointer (some ⟨c.a, 0, none⟩)) := by rw [HQ.out, HC.out]; exact hk0
  rw [← HQ.out] at HT
  have HALL : Hid (c.byte t.p.size = k[t.p.size] ∧ ¬ c.path <+: k.data.toList ∧ behindOf t k hp = posn t.ks t.p.size k[t.p.size] + 1 ∧ c ∈ t.ks) := ⟨by rw [HC.out]; exact hbyte, by rw [HC.out]; exact hnp, hbh, by rw [HC.out]; exact List.getElem_mem hq⟩
  clear h hv hw hyes hnx hkids hk0 hbyte hnp hbh
  go_enter Try.func41, Try.ntmps41
  go_wp2_with fail
  refine HT.mono ?_
  clear HT
  rintro e w1 ⟨rfl, hb1⟩
  have HB1 : Hid (Below w.heap.size w w1) := hb1
  have c2' : w1.cell? ⟨t.a, 2, none⟩ = some (.slice (some ⟨bb, off, none⟩) t.ks.length cap) := by rw [hb1.cell (by exact ha)]; exact c2
  have k1' : w1.cell? ⟨bb, off + q, none⟩ = some (.pointer (some ⟨c.a, 0, none⟩)) := by rw [hb1.cell (by exact hbl)]; exact hk1
  clear hb1 c0 c2 hk1
  have HJ := joined_calls c k v w1 ((HH.out.sub' _ HALL.out.2.2.2).keep HB1.out) (HV.out.below HB1.out) hks HALL.out.2.1 (fun b hb => by have h1 := hR b hb; have h2 := HB1.out.size; omega)
  go_wp2_with fail
  refine HJ.mono ?_
  clear HJ
  rintro e w3 ⟨J, rfl, hb3, hJ3, hJR⟩
  have h03 : Below w.heap.size w w3 := HB1.out.trans (hb3.mono HB1.out.size)
  obtain ⟨w4, HW4⟩ : ∃ w4, Hid (w4 = w3.alloc (.cells #[.pointer (some ⟨J.a, 0, none⟩)] 96)) := ⟨_, rfl⟩
  have h34 : Below w3.heap.size w3 w4 := by rw [HW4.out]; exact (Below.refl _ _).alloc (Nat.le_refl _) _
  have h04 : Below w.heap.size w w4 := h03.trans (h34.mono h03.size)
  have hblk : w4.heap[w3.heap.size]? = some (.cells #[.pointer (some ⟨J.a, 0, none⟩)] 96) := by rw [HW4.out]; exact heap_alloc_new _ _
  have HK := withKids_calls t k ⟨some ⟨w3.heap.size, 0, none⟩, 1, [J]⟩ w4 (HH.out.keep h04) HWF.out hp hks (one_kid (fun e => by have h1 := hR _ e; have h2 := h03.size; omega) hblk) (by simp) (fun c hc => by simp at hc; subst hc; exact hJ3.keep h34) (fun b hb => by have h1 := hR b hb; have h2 := h04.size; omega)
  have HB4 : Hid (Below w.heap.size w w4) := h04
  have HJR : Hid (JoinR w1.heap.size k v c J) := hJR
  clear hb3 h03 h34 h04 hblk hJ3 hJR c2' k1'
  go_wp2_with fail
  rw [← HW4.out]
  refine HK.mono ?_
  clear HK
  rintro e w5 ⟨a', g', rfl, hb5, ha5, hg5, hT5⟩
  have hz4 := HB4.out.size
  have hz1 := HB1.out.size
  go_wp2
  go_ret
  refine ⟨_, rfl, HB4.out.trans (hb5.mono hz4), hT5, ?_⟩
  rw [HALL.out.2.2.1]
  refine .join (c := c) (by omega) (by omega) hp hq HC.out.symm HALL.out.1 HALL.out.2.1 ?_
  exact HJR.out.lower hz1

theorem entry_calls (t : Tr) (k : ByteArray) (v : Vl) (w : World) (h : TAt R w t) (hw : WF t) (hv : VAt w v) (hp : t.path <+: k.data.toList) (hks : k.size ≤ 140737488351232) (hnx : nx t k.data.toList = none) (hR : ∀ b, R b → b < w.heap.size) :
    Calls Try.prog 41 #[.pointer (some ⟨t.a, 0, none⟩), .string k, .pointer (some ⟨v.a, 0, none⟩)] w fun e w' => ∃ T' : Tr, e = .returned (.pointer (some ⟨T'.a, 0, none⟩)) ∧ Below w.heap.size w w' ∧ TAt R w' T' ∧ EntR w.heap.size k v t T' := by
  have hle : t.p.size ≤ k.size := by have := hp.length_le; rw [path_length] at this; simpa using this
  by_cases he : t.p.size = k.size
  · exact entry_here t k v w h hv he
  · have hlt : t.p.size < k.size := by omega
    cases hth : thereB t.ks t.p.size k[t.p.size] with
    | false => exact entry_leaf t k v w h hw hv hlt hks hth hR
    | true => exact entry_join t k v w h hw hv hlt hks hth hnx hR

theorem backward_calls (ao : Option Addr) (n cap : Nat) (w : World) :
    Calls Try.prog 43 #[.slice ao n cap] w fun e w' => e = .returned (.func (.func 79) #[] #[.pointer (some ⟨w.heap.size, 0, none⟩)]) ∧ w' = w.alloc (.cells #[.slice ao n cap] 104) := by
  have hmf : ∀ (fn : Fn) (first cap : Array Value) (w : World), (Instr.makeFunc fn first cap).run Try.prog w = .ok (.func fn first cap) w := fun _ _ _ _ => rfl
  go_enter Try.func43, Try.ntmps43
  go_wp2
  go_ret
  exact ⟨rfl, rfl⟩

set_option maxRecDepth 100000 in
set_option maxHeartbeats 2000000 in
theorem back1_in (F : Fence) (n : Nat) (hF : F.fn 79) (hro : F.round = none) (hn : 1 ≤ n) (l Bs b cap : Nat) (init : List Tr) (hlen : init.length ≤ 17592186044416) (J Jx : List (Fin init.length) → World → Prop)
    (hY : ∀ pre x W, J pre W → pre.length < init.length → YieldAt F (n - 1) Try.prog l (encN init x) W fun e W' => (e = .returned (.bool true) ∧ J (pre ++ [x]) W' ∧ Kept2 b Bs W W') ∨ (e = .returned (.bool false) ∧ Jx (pre ++ [x]) W'))
    (W : World) (hBs : W.cell? ⟨Bs, 0, none⟩ = some (.slice (some ⟨b, 0, none⟩) init.length cap)) (hc : KidsAt R W (some ⟨b, 0, none⟩) init) (h0 : J [] W) :
    CallsIn F n Try.prog 79 #[.func (.yield l) #[] #[], .pointer (some ⟨Bs, 0, none⟩)] W fun e W' => (∃ v, e = .returned v) ∧
      ((∃ ys : List (Fin init.length), ys.map (·.val) = downTo init.length init.length ∧ J ys W') ∨ (∃ pre, True ∧ Jx pre W')) := by
  have HC : Hid (KidsAt R W (some ⟨b, 0, none⟩) init) := hc
  clear hc
  refine callsIn_of_wp Try.func79 rfl hF ?_ hro
  simp only [Try.ntmps79, List.size_toArray, List.length_cons, List.length_nil, Nat.reduceAdd, Nat.reduceSub, Array.replicate_succ, Array.replicate_zero, List.push_toArray, List.append_toArray, List.nil_append, List.cons_append]
  gi_wp2
  gi_loopw [3] (fun i wr => ∃ (k : Nat) (pre : List (Fin init.length)), k ≤ init.length ∧ i = .int .i64 ((init.length : Int) - 1 - k) ∧ Hid (pre.map (·.val) = downTo init.length k) ∧ Hid (J pre wr) ∧ Hid (Kept2 b Bs W wr))
    (fun i _ => ((intOf i) + 1).toNat)
  case atStart => exact ⟨0, [], Nat.zero_le _, by simp, rfl, h0, Kept2.refl _ _ _⟩
  case round =>
    obtain ⟨k, pre, hk, rfl, HP, HJ, HB⟩ := hrel
    have hcs : wr.cell? ⟨Bs, 0, none⟩ = some (.slice (some ⟨b, 0, none⟩) init.length cap) := (cell_same HB.out.two).trans hBs
    by_cases hlt : k < init.length
    · have hi : init.length - 1 - k < init.length := by omega
      obtain ⟨b', off', he, hcell, _⟩ := HC.out (init.length - 1 - k) hi
      simp only [Option.some.injEq, Addr.mk.injEq] at he
      obtain ⟨rfl, rfl, _⟩ := he
      have hpl : pre.length = k := by have := congrArg List.length HP.out; simpa [downTo_length] using this
      obtain ⟨fn, tmps, assign, body, hy, hR⟩ := hY pre ⟨init.length - 1 - k, hi⟩ wr HJ.out (by omega)
      have hii : ((init.length - 1 - k : Nat) : Int) = (init.length : Int) - 1 - k := by omega
      dsimp only [encN] at hy
      have hcw : wr.cell? ⟨b, (init.length - 1 - k), none⟩ = some (.pointer (some ⟨init[init.length - 1 - k].a, 0, none⟩)) := by
        rw [cell_same HB.out.one]; simpa using hcell
      have htn : ((init.length : Int) - 1 - k).toNat = init.length - 1 - k := by omega
      have hge : (0 : Int) ≤ (init.length : Int) - 1 - k := by omega
      rw [hii] at hy
      gi_wp2
      refine hR.mono ?_
      rintro e W3 (⟨rfl, hJ3, hk3⟩ | ⟨rfl, hJx3⟩)
      · have HJ3 : Hid (J (pre ++ [⟨init.length - 1 - k, hi⟩]) W3) := hJ3
        have HB3 : Hid (Kept2 b Bs W W3) := HB.out.trans hk3
        clear hJ3 hk3
        gi_wp2
        go_roundw
        case rel => exact ⟨k + 1, _, by omega, by congr 1; omega, by show _ = _; rw [List.map_append, HP.out, downTo_succ]; rfl, HJ3, HB3⟩
        case measure => simp only [intOf]; omega
      · gi_wp2
        refine bodyPost_ret (results_none rfl _ _ _) rfl ?_
        exact ⟨⟨_, rfl⟩, .inr ⟨_, trivial, hJx3⟩⟩
    · have hkl : k = init.length := by omega
      subst hkl
      have hneg : ¬ (0 : Int) ≤ (init.length : Int) - 1 - (init.length : Int) := by omega
      have hsub : (init.length : Int) - 1 - (init.length : Int) = -1 := by omega
      rw [hsub]
      gi_wp2
      go_end0
      exact ⟨⟨_, rfl⟩, .inl ⟨_, HP.out, HJ.out⟩⟩

/-- The iterator that Backward hands back. -/
theorem back_stops (F : Fence) (n : Nat) (hF : F.fn 79) (hro : F.round = none) (hn : 1 ≤ n) (Bs b cap : Nat) (init : List Tr) (hlen : init.length ≤ 17592186044416) (w : World)
    (hc : w.cell? ⟨Bs, 0, none⟩ = some (.slice (some ⟨b, 0, none⟩) init.length cap)) (hk : KidsAt R w (some ⟨b, 0, none⟩) init) :
    SeqStopsK F n Try.prog 79 #[.pointer (some ⟨Bs, 0, none⟩)] (encN init) (Kept2 b Bs) (fun ys => ys.map (·.val) = downTo init.length init.length) (fun _ => True) init.length w := fun l J Jx W hW _ _ hY h0 => by
  have hBs : Bs < w.heap.size := World.block_lt_of_cell? w _ hc
  exact back1_in F n hF hro hn l Bs b cap init hlen J Jx hY W ((hW.cell (p := ⟨Bs, 0, none⟩) hBs).trans hc) (hk.below hW) h0

structure TreeAt (w : World) (tb : Nat) (t : Tr) (n : Int) : Prop where
  blk : w.heap[tb]? = some (.cells #[.pointer (some ⟨t.a, 0, none⟩), .int .i64 n] 99)
  tat : TAt nR w t

theorem TreeAt.keep {w w' : World} {tb : Nat} {t : Tr} {n : Int} (h : TreeAt w tb t n) (hb : Below w.heap.size w w') : TreeAt w' tb t n := ⟨(hb.block _ (lt_of_heap h.blk)).trans h.blk, h.tat.keep hb⟩

/-- The boxes of nodes that hold nothing yet. -/
def boxR (W : World) (b : Nat) : Prop := W.heap[b]? = some (.cells #[.pointer none] 96)

theorem TAt.boxes {W w : World} {t : Tr} (h : TAt R w t) (hW : ∀ b, boxR W b → w.heap[b]? = some (.cells #[.pointer none] 96)) : TAt (boxR W) w t := by
  induction h with
  | mk blk kids val wat sub room nil psz ih =>
    refine .mk blk (fun i hi => ?_) val wat ih room nil psz
    obtain ⟨b, off, ha, h0, _⟩ := kids i hi
    refine ⟨b, off, ha, h0, fun hc => ?_⟩
    rw [cell_of_blk (hW b hc)] at h0
    cases ho : off + i with
    | zero => rw [ho] at h0; simp at h0
    | succ m => rw [ho] at h0; simp at h0

theorem TAt.less {R' : Nat → Prop} {w : World} {t : Tr} (h : TAt R w t) (hR : ∀ b, R' b → R b) : TAt R' w t := by
  induction h with
  | mk blk kids val wat sub room nil psz ih =>
    refine .mk blk (fun i hi => ?_) val wat ih room nil psz
    obtain ⟨b, off, ha, h0, hr⟩ := kids i hi
    exact ⟨b, off, ha, h0, fun hc => hr (hR b hc)⟩

theorem entry_boxes (t : Tr) (k : ByteArray) (v : Vl) (w : World) (h : TAt nR w t) (hw : WF t) (hv : VAt w v) (hp : t.path <+: k.data.toList) (hks : k.size ≤ 140737488351232) (hnx : nx t k.data.toList = none) :
    Calls Try.prog 41 #[.pointer (some ⟨t.a, 0, none⟩), .string k, .pointer (some ⟨v.a, 0, none⟩)] w fun e w' => ∃ T' : Tr, e = .returned (.pointer (some ⟨T'.a, 0, none⟩)) ∧ Below w.heap.size w w' ∧ TAt (boxR w) w' T' ∧ EntR w.heap.size k v t T' :=
  entry_calls t k v w (h.boxes fun b hb => hb) hw hv hp hks hnx (fun b hb => lt_of_heap hb)

theorem newValue_some (n : ByteArray) (w : World) : Calls Try.prog 42 #[.string n] w fun e w' => ∃ va vg, e = .returned (.pointer (some ⟨va, 0, none⟩)) ∧ Below w.heap.size w w' ∧ VAt w' ⟨va, .string n, vg⟩ ∧ w.heap.size ≤ va ∧ w.heap.size ≤ vg :=
  (newValue_calls n w).mono fun e w' ⟨h1, h2, h3, h4⟩ => ⟨_, _, h1, h2, h4, by omega, by omega⟩

/-- What stands between way and the loop. -/
structure InsMid (w : World) (k : ByteArray) (v : Vl) (c : Tr) (init : List Tr) (kb g nb : Nat) (T : Tr) (wx : World) : Prop where
  below : Below w.heap.size w wx
  kbox : wx.heap[kb]? = some (.cells #[.string k] 9)
  kbl : w.heap.size ≤ kb
  nbox : wx.heap[nb]? = some (.cells #[.pointer (some ⟨T.a, 0, none⟩)] 96)
  nbl : w.heap.size ≤ nb
  tat : TAt (· = nb) wx T
  ent : EntR w.heap.size k v c T
  way : KidsAt (· = nb) wx (some ⟨g, 0, none⟩) init
  gne : g ≠ nb ∧ g < wx.heap.size
  val : VAt wx v
  va : w.heap.size ≤ v.a ∧ w.heap.size ≤ v.g

theorem mid_store {w w1 w2 w4 : World} {k : ByteArray} {v : Vl} {c T : Tr} {init : List Tr} {g nb M : Nat} (h01 : Below w.heap.size w w1 ∧ w1.heap[w.heap.size]? = some (.cells #[.string k] 9)) (h12 : Below w1.heap.size w1 w2 ∧ KidsAt nR w2 (some ⟨g, 0, none⟩) init ∧ g < w2.heap.size) (hs1 : w.heap.size + 1 ≤ w1.heap.size)
    (h24 : Below w2.heap.size w2 w4) (hn : w4.heap[nb]? = some (.cells #[.pointer none] 96)) (hnb : w2.heap.size ≤ nb) (hT : TAt R w4 T) (hR : R nb) (hE : EntR M k v c T) (hM : w.heap.size ≤ M) (hv : VAt w4 v) (hva : w2.heap.size ≤ v.a ∧ w2.heap.size ≤ v.g) :
    InsMid w k v c init w.heap.size g nb T (w4.setCell ⟨nb, 0, none⟩ (.pointer (some ⟨T.a, 0, none⟩))) := by
  have hz := h12.1.size
  have h02 : Below w.heap.size w w2 := h01.1.trans (h12.1.mono h01.1.size)
  have hz2 := h02.size
  have hk2 : w2.heap[w.heap.size]? = some (.cells #[.string k] 9) := (h12.1.block _ (by omega)).trans h01.2
  have hbb : ∀ b, b < w2.heap.size → (w4.setCell ⟨nb, 0, none⟩ (.pointer (some ⟨T.a, 0, none⟩))).heap[b]? = w2.heap[b]? := fun b hb => by
    rw [heap_setCell_other _ _ _ _ (by show b ≠ nb; omega)]; exact h24.block b hb
  have hway := kids_later h12.2.1 hbb hnb
  have hg2 := h12.2.2
  have hz4 := h24.size
  have hgne : g ≠ nb ∧ g < (w4.setCell ⟨nb, 0, none⟩ (.pointer (some ⟨T.a, 0, none⟩))).heap.size := ⟨by omega, by simp; omega⟩
  have hne : ∀ {a : Nat} {ds : Array Value} {ty' : TypeId}, w4.heap[a]? = some (.cells ds ty') → 96 ≠ ty' → (w4.setCell ⟨nb, 0, none⟩ (.pointer (some ⟨T.a, 0, none⟩))).heap[a]? = w4.heap[a]? := fun ha ht => heap_setCell_other _ _ _ _ (fun e => by
    have e' : _ = nb := e
    subst e'
    have := hn.symm.trans ha
    simp at this
    exact ht this.2)
  obtain ⟨cc, ff, hwat⟩ := hv.wat
  refine ⟨(h02.trans (h24.mono hz2)).setCell (by show w.heap.size ≤ nb; omega) _, (hbb _ (by omega)).trans hk2, Nat.le_refl _, ?_, by omega, ?_, hE.lower hM, hway, hgne, ⟨(hne hv.blk (by decide)).trans hv.blk, ⟨cc, ff, (hne hwat (by decide)).trans hwat⟩, hv.num⟩, by omega, by omega⟩
  · rw [setCell_blk hn]; simp
  · exact ((hT.poke (i := 0) hR hn (by decide) (by decide) (by decide) (.pointer (some ⟨T.a, 0, none⟩))).less (fun b hb => by have hb' : b = nb := hb; subst hb'; exact hR))

theorem mid_alloc {w w1 w2 w4 : World} {k : ByteArray} {v : Vl} {c T : Tr} {init : List Tr} {g M : Nat} (h01 : Below w.heap.size w w1 ∧ w1.heap[w.heap.size]? = some (.cells #[.string k] 9)) (h12 : Below w1.heap.size w1 w2 ∧ KidsAt nR w2 (some ⟨g, 0, none⟩) init ∧ g < w2.heap.size) (hs1 : w.heap.size + 1 ≤ w1.heap.size)
    (h24 : Below w2.heap.size w2 w4) (hT : TAt R w4 T) (hE : EntR M k v c T) (hM : w.heap.size ≤ M) (hv : VAt w4 v) (hva : w2.heap.size ≤ v.a ∧ w2.heap.size ≤ v.g) :
    InsMid w k v c init w.heap.size g w4.heap.size T (w4.alloc (.cells #[.pointer (some ⟨T.a, 0, none⟩)] 96)) := by
  have hz := h12.1.size
  have h02 : Below w.heap.size w w2 := h01.1.trans (h12.1.mono h01.1.size)
  have hz2 := h02.size
  have hz4 := h24.size
  have hk2 : w2.heap[w.heap.size]? = some (.cells #[.string k] 9) := (h12.1.block _ (by omega)).trans h01.2
  have h4x : Below w4.heap.size w4 (w4.alloc (.cells #[.pointer (some ⟨T.a, 0, none⟩)] 96)) := (Below.refl _ _).alloc (Nat.le_refl _) _
  have hbb : ∀ b, b < w2.heap.size → (w4.alloc (.cells #[.pointer (some ⟨T.a, 0, none⟩)] 96)).heap[b]? = w2.heap[b]? := fun b hb => by
    rw [h4x.block b (by omega)]; exact h24.block b hb
  have hway := kids_later (nb := w4.heap.size) h12.2.1 hbb hz4
  have hg2 := h12.2.2
  have hgne : g ≠ w4.heap.size ∧ g < (w4.alloc (.cells #[.pointer (some ⟨T.a, 0, none⟩)] 96)).heap.size := ⟨by omega, by simp [World.size_alloc]; omega⟩
  have h04 : Below w.heap.size w w4 := h02.trans (h24.mono hz2)
  exact ⟨h04.trans (h4x.mono h04.size), (hbb _ (by omega)).trans hk2, Nat.le_refl _, heap_alloc_new _ _, by omega, (hT.avoid (fun b hb => by have hb' : b = w4.heap.size := hb; omega)).keep h4x, hE.lower hM, hway, hgne, hv.below h4x, by omega, by omega⟩

theorem TAt.grown {W W' : World} {row : Option Nat} {t : Tr} (h : TAt R W t) (hg : W.grownBy W' row) (hr : ∀ r, row = some r → ∃ o : Obj, W.heap[r]? = some o ∧ o.isCells = false) : TAt R W' t := by
  have hwc : ∀ {g : Nat}, Wc W g → Wc W' g := fun hx => by
    obtain ⟨c, f, hx⟩ := hx
    exact ⟨c, f, heap_kept hx hg hr⟩
  induction h with
  | mk blk kids val wat sub room nil psz ih =>
    refine .mk (heap_kept blk hg hr) (fun i hi => ?_) (fun x hx => ?_) (hwc wat) ih room nil psz
    · obtain ⟨b, off, ha, h0, hn⟩ := kids i hi
      exact ⟨b, off, ha, cell_kept h0 hg hr, hn⟩
    · have := val x hx
      exact ⟨heap_kept this.blk hg hr, hwc this.wat, this.num⟩

/-- The end of Insert: the rounds' deferred calls are taken up (there are none). -/
theorem ins_end {w W w9 : World} {D nb : Nat} {T : Tr} {m : Int} (h0 : Below w.heap.size w W) (h9 : Below W.heap.size W w9) (hT : TAt R W T) (hK : W.heap[D]? = some (.deferred (some []))) (hD : w.heap.size ≤ D) :
    (w9.alloc (.cells #[.pointer (some ⟨T.a, 0, none⟩), .int .i64 m] 99)).heap[D]? = some (.deferred (some [])) ∧
    Below w.heap.size w ((w9.alloc (.cells #[.pointer (some ⟨T.a, 0, none⟩), .int .i64 m] 99)).putObj D (.deferred none)) ∧
    TreeAt ((w9.alloc (.cells #[.pointer (some ⟨T.a, 0, none⟩), .int .i64 m] 99)).putObj D (.deferred none)) w9.heap.size T m ∧ w.heap.size ≤ w9.heap.size := by
  obtain ⟨X, HX⟩ : ∃ X, X = w9.alloc (.cells #[.pointer (some ⟨T.a, 0, none⟩), .int .i64 m] 99) := ⟨_, rfl⟩
  have h9X : Below w9.heap.size w9 X := by rw [HX]; exact (Below.refl _ _).alloc (Nat.le_refl _) _
  have hWX : Below W.heap.size W X := h9.trans (h9X.mono h9.size)
  have hnew : X.heap[w9.heap.size]? = some (.cells #[.pointer (some ⟨T.a, 0, none⟩), .int .i64 m] 99) := by rw [HX]; exact heap_alloc_new _ _
  rw [← HX]
  have hKX : X.heap[D]? = some (.deferred (some [])) := (hWX.block _ (lt_of_heap hK)).trans hK
  have hr : ∀ r, some D = some r → ∃ o : Obj, X.heap[r]? = some o ∧ o.isCells = false := fun r e => by cases e; exact ⟨_, hKX, rfl⟩
  have hg := grownBy_putObj' X D (.deferred none)
  have h0X : Below w.heap.size w X := h0.trans (hWX.mono h0.size)
  refine ⟨hKX, h0X.grown hg h0X.size (fun k e => by cases e; exact hD), ⟨heap_kept hnew hg hr, ((hT.less (R' := nR) (fun b hb => hb.elim)).keep hWX).grown hg hr⟩, Nat.le_trans h0.size h9.size⟩

/-- Between two rounds of the loop. -/
structure InsI (w : World) (k : ByteArray) (v : Vl) (all : List Tr) (L kb nb S : Nat) (ix : List Nat) (W : World) (T : Tr) : Prop where
  size : S ≤ W.heap.size
  below : Below w.heap.size w W
  kbox : W.heap[kb]? = some (.cells #[.string k] 9)
  nbox : W.heap[nb]? = some (.cells #[.pointer (some ⟨T.a, 0, none⟩)] 96)
  tat : TAt (· = nb) W T
  rel : ∀ m, m ≤ L → ix = downTo L m → ∀ u, all[L - m]? = some u → InsR w.heap.size k v u T

set_option maxRecDepth 100000 in
set_option maxHeartbeats 4000000 in
theorem insert_calls (tb : Nat) (t : Tr) (ne : Int) (k : ByteArray) (n : ByteArray) (w : World) (init : List Tr) (c : Tr) (hT : TreeAt w tb t ne) (hw : WF t) (hp : t.path <+: k.data.toList) (hks : k.size ≤ 140737488351232) (hA : Along k.data.toList t (init ++ [c])) (hd : init.length + 1 ≤ 17592186044416)
    (hne0 : 0 ≤ ne) (hne1 : ne ≤ 4611686018427387904) :
    Calls Try.prog 15 #[.pointer (some ⟨tb, 0, none⟩), .string k, .string n] w fun e w' => ∃ tb' T' va vg, e = .returned (.tuple #[.pointer (some ⟨tb', 0, none⟩), held (valAt c k), .bool (valAt c k).isSome]) ∧ Below w.heap.size w w' ∧
      TreeAt w' tb' T' (ne + plusNew (valAt c k)) ∧ InsR w.heap.size k ⟨va, .string n, vg⟩ t T' ∧ w.heap.size ≤ va ∧ w.heap.size ≤ vg ∧ w.heap.size ≤ tb' := by
  have hmf : ∀ (fn : Fn) (first cap : Array Value) (w : World), (Instr.makeFunc fn first cap).run Try.prog w = .ok (.func fn first cap) w := fun _ _ _ _ => rfl
  have hnot : ∀ (x : Bool) (w : World), (Op.unary .not (.bool x)).run Try.prog w = .ok (.bool (!x)) w := fun _ _ => rfl
  have hb0 := lt_of_heap hT.blk
  obtain ⟨w1, HW1⟩ : ∃ w1, Hid (w1 = w.alloc (.cells #[.string k] 9)) := ⟨_, rfl⟩
  have hb1 : Below w.heap.size w w1 := by rw [HW1.out]; exact (Below.refl _ _).alloc (Nat.le_refl _) _
  have hs1 : w1.heap.size = w.heap.size + 1 := by rw [HW1.out]; simp [World.size_alloc]
  have hkb : w1.heap[w.heap.size]? = some (.cells #[.string k] 9) := by rw [HW1.out]; exact heap_alloc_new w _
  have t0 : w1.cell? ⟨tb, 0, none⟩ = some (.pointer (some ⟨t.a, 0, none⟩)) := by rw [hb1.cell (by exact hb0), cell_of_blk hT.blk]; rfl
  have k0 : w1.cell? ⟨w.heap.size, 0, none⟩ = some (.string k) := by rw [cell_of_blk hkb]; rfl
  have HWY := way_calls t k w1.drew init c hA (hT.tat.keep ⟨hb1.os, hb1.tape, hb1.output, hb1.size, hb1.block⟩) hw hp hks hd (fun b hb => hb.elim)
  have HT : Hid (TreeAt w tb t ne) := hT
  have HWF : Hid (WF t) := hw
  have HA : Hid (Along k.data.toList t (init ++ [c])) := hA
  have HP : Hid (t.path <+: k.data.toList) := hp
  have HB1 : Hid (Below w.heap.size w w1 ∧ w1.heap[w.heap.size]? = some (.cells #[.string k] 9)) := ⟨hb1, hkb⟩
  clear hT hw hA hp hb1 hkb
  refine (callsIn_wide (n := 8)).1 ?_
  refine callsIn_of_wp_marks Try.func15 rfl trivial ?_ rfl
  refine wpIn_wide.2 ?_
  simp only [Try.ntmps15, List.size_toArray, List.length_cons, List.length_nil, Nat.reduceAdd, Nat.reduceSub, Array.replicate_succ, Array.replicate_zero, List.push_toArray, List.append_toArray, List.nil_append, List.cons_append]
  go_wp2_with fail
  rw [← HW1.out]
  clear HW1
  go_region_held3 (fun W => W.cell? ⟨tb, 0, none⟩ = some (.pointer (some ⟨t.a, 0, none⟩)) ∧ W.cell? ⟨w.heap.size, 0, none⟩ = some (.string k)) (first | (exact q3) | go_keep)
    (first
      | (go_at_call 40
         refine HWY.mono ?_
         rintro e w2 ⟨g, cap, rfl, hb2, hk2, hgl2⟩
         have q3 : w2.cell? ⟨tb, 0, none⟩ = some (.pointer (some ⟨t.a, 0, none⟩)) ∧ w2.cell? ⟨w.heap.size, 0, none⟩ = some (.string k) := ⟨by rw [hb2.cell (by show tb < w1.heap.size; omega)]; exact t0, by rw [hb2.cell (by show w.heap.size < w1.heap.size; omega)]; exact k0⟩
         have HW2 : Hid (Below w1.heap.size w1 w2 ∧ KidsAt nR w2 (some ⟨g, 0, none⟩) init ∧ g < w2.heap.size) := ⟨⟨hb2.os, hb2.tape, hb2.output, hb2.size, hb2.block⟩, hk2, hgl2⟩
         clear hb2 hk2 hgl2 HWY))
  go_wp2_with fail
  have hz2 : w.heap.size + 1 ≤ w2.heap.size := by have := HW2.out.1.size; omega
  have h02 : Below w.heap.size w w2 := HB1.out.1.trans (HW2.out.1.mono HB1.out.1.size)
  have HC2 : Hid (TAt nR w2 c) := along_tat HA.out (HT.out.tat.keep h02) c (by simp)
  have HWC : Hid (WF c ∧ c.path <+: k.data.toList ∧ nx c k.data.toList = none) := ⟨HA.out.wf HWF.out c (by simp), HA.out.pre HP.out c (by simp), by
    have := HA.out.step init.length (by simp)
    simpa using this⟩
  have H02 : Hid (Below w.heap.size w w2) := h02
  have k2 := q3.2
  clear h02 q3
  go_cut [11] from 26 to 30 (fun s11 wx => ∃ (nb : Nat) (T : Tr) (va vg : Nat), s11 = .pointer (some ⟨nb, 0, none⟩) ∧ Hid (InsMid w k ⟨va, .string n, vg⟩ c init w.heap.size g nb T wx))
  case first =>
    go_region_held3 (fun W => W.cell? ⟨w.heap.size, 0, none⟩ = some (.string k)) (first | (exact q5) | (exact q4) | (rw [World.cell?_setCell_other _ _ _ _ (by intro e; have := congrArg Addr.block e; simp at this; omega)]; exact q5) | go_keep)
      (first
        | (go_at_call 42
           refine (newValue_some n _).mono ?_
           rintro e w3 ⟨va, vg, rfl, hb3, hv3, hva, hvg⟩
           have q4 : w3.cell? ⟨w.heap.size, 0, none⟩ = some (.string k) := by
             rw [hb3.cell (by simp; omega)]; first | assumption | (simp; assumption) | go_keep
           have hc3 : TAt nR w3 c := HC2.out.keep (by first | exact below_drew hb3 | exact below_drew (below_alloc hb3).1 | exact (below_alloc (below_drew hb3)).1)
           have HC3 : Hid (TAt nR w3 c) := hc3
           have HVA : Hid (VAt w3 ⟨va, .string n, vg⟩ ∧ w2.heap.size ≤ va ∧ w2.heap.size ≤ vg) := ⟨hv3, by simp at hva; omega, by simp at hvg; omega⟩
           have HB3 : Hid (Below w2.heap.size w2 w3) := (by first | exact below_drew hb3 | exact below_drew (below_alloc hb3).1 | exact (below_alloc (below_drew hb3)).1)
           try (have N3 : Hid (w3.heap[w2.heap.size]? = some (.cells #[.pointer none] 96)) := (by first | exact (below_alloc hb3).2 | exact (below_alloc (below_drew hb3)).2))
           have hz3 : w2.heap.size ≤ w3.heap.size := by have := hb3.size; simp at this; omega
           clear hb3 hv3 hc3 hva hvg)
        | (go_at_call 41
           refine (entry_boxes c k ⟨va, .string n, vg⟩ _ (by first | exact HC3.out | exact HC3.out.keep ((Below.refl _ _).alloc (Nat.le_refl _) _)) HWC.out.1 (by first | exact HVA.out.1 | exact HVA.out.1.below ((Below.refl _ _).alloc (Nat.le_refl _) _)) HWC.out.2.1 hks HWC.out.2.2).mono ?_
           rintro e w4 ⟨T, rfl, hb4, hT4, hE4⟩
           have q5 : w4.cell? ⟨w.heap.size, 0, none⟩ = some (.string k) := by
             rw [hb4.cell (by simp; omega)]; assumption
           have H4 : Hid _ := And.intro hb4 (And.intro hT4 hE4)
           try (have N4 : Hid (w4.heap[w2.heap.size]? = some (.cells #[.pointer none] 96)) := (hb4.block _ (lt_of_heap N3.out)).trans N3.out; have nc4 : w4.cell? ⟨w2.heap.size, 0, none⟩ = some (.pointer none) := (by rw [cell_of_blk N4.out]; rfl); have nz4 : w4.frozen? ⟨w2.heap.size, 0, none⟩ = false := frozen_of_blk N4.out)
           try (have N4 : Hid (w4.heap[w3.heap.size]? = some (.cells #[.pointer none] 96)) := (below_alloc hb4).2; have nc4 : w4.cell? ⟨w3.heap.size, 0, none⟩ = some (.pointer none) := (by rw [cell_of_blk N4.out]; rfl); have nz4 : w4.frozen? ⟨w3.heap.size, 0, none⟩ = false := frozen_of_blk N4.out)
           clear hb4 hT4 hE4))
    · go_wp2
      go_meet
      have h4 := H4.out
      exact ⟨_, T, va, vg, rfl, mid_alloc HB1.out HW2.out (by omega) (HB3.out.trans (h4.1.mono hz3)) h4.2.1 h4.2.2 (by omega) (HVA.out.1.below h4.1) HVA.out.2⟩
    · go_wp2
      go_meet
      have h4 := H4.out
      have hb := below_alloc h4.1
      have hz : (w3.alloc (.cells #[.pointer none] 96)).heap.size = w3.heap.size + 1 := by simp [World.size_alloc]
      exact ⟨_, T, va, vg, rfl, mid_store HB1.out HW2.out (by omega) (HB3.out.trans (hb.1.mono hz3)) N4.out hz3 h4.2.1 (by exact heap_alloc_new _ _) h4.2.2 (by omega) (HVA.out.1.below hb.1) HVA.out.2⟩
    · go_wp2
      go_meet
      have h4 := H4.out
      exact ⟨_, T, va, vg, rfl, mid_store HB1.out HW2.out (by omega) (HB3.out.trans (h4.1.mono hz3)) N4.out (Nat.le_refl _) h4.2.1 N3.out h4.2.2 (by omega) (HVA.out.1.below h4.1) HVA.out.2⟩
  case rest =>
    obtain ⟨nb, T, va, vg, rfl, HM⟩ := hcut
    clear HB1 HW2 HC2 HWC H02 k2 t0 k0 hs1 hz2
    go_wp2_with fail
    refine (backward_calls _ _ _ wc).mono ?_
    rintro e w6 ⟨rfl, hw6⟩
    have HW6 : Hid (w6 = wc.alloc (.cells #[.slice (some ⟨g, 0, none⟩) init.length cap] 104)) := hw6
    clear hw6
    go_wp2_with fail
    have hm := HM.out
    have h06 : Below w.heap.size w w6 := by rw [HW6.out]; exact hm.below.alloc hm.below.size _
    have h66 : Below wc.heap.size wc w6 := by rw [HW6.out]; exact (Below.refl _ _).alloc (Nat.le_refl _) _
    have hbox6 : w6.heap[wc.heap.size]? = some (.cells #[.slice (some ⟨g, 0, none⟩) init.length cap] 104) := by rw [HW6.out]; exact heap_alloc_new _ _
    have hs6 : w6.heap.size = wc.heap.size + 1 := by rw [HW6.out]; simp [World.size_alloc]
    have hnl := lt_of_heap hm.nbox
    have hkl := lt_of_heap hm.kbox
    have hnbl := hm.nbl
    refine (wpIn_wide (n := 8)).1 ?_
    refine wpIn_rangeFunc_ownG (F := Fence.wide) rfl (by omega) (gf := 79) (lb := #[.pointer (some ⟨wc.heap.size, 0, none⟩)]) rfl trivial (enters_of Try.func79 (by kernel_rfl) rfl)
      (back_stops Fence.wide 7 trivial rfl (by omega) wc.heap.size g cap init (by omega) w6 (by rw [cell_of_blk hbox6]; rfl) (hm.way.below h66)) (fun h1 h2 => h1.trans h2) ?hKb (Below.refl _ _) (fun _ => rfl)
      (fun pre W => ∃ T, InsI w k ⟨va, .string n, vg⟩ (init ++ [c]) init.length w.heap.size nb w6.heap.size (pre.map (·.val)) W T)
      (fun _ _ _ => False) ?hI (fun _ _ _ _ _ h _ _ => h) ?h0 ?a1 ?assign ?body ?done ?stop
    case assign =>
      intro l x W K hK
      dsimp only [encN]
      gi_wp2
      exact hK
    case hKb =>
      intro W l o o' hl h1 h2 h3
      have hg1 := hm.gne.2
      exact ⟨World.putObj_heap_other (by omega), World.putObj_heap_other (by omega)⟩
    case hI =>
      intro pre A B row hs hg hr
      obtain ⟨T1, hI1⟩ := hs
      exact ⟨T1, Nat.le_trans hI1.size hg.size, hI1.below.grown hg hI1.below.size (fun r e => by have := (hr r e).1; have := h06.size; omega), heap_kept hI1.kbox hg (fun r e => (hr r e).2), heap_kept hI1.nbox hg (fun r e => (hr r e).2), hI1.tat.grown hg (fun r e => (hr r e).2), hI1.rel⟩
    case h0 =>
      refine ⟨T, Nat.le_refl _, h06, (h66.block _ hkl).trans hm.kbox, (h66.block _ hnl).trans hm.nbox, hm.tat.keep h66, ?_⟩
      intro m hml hmx u hu
      have hm0 : m = 0 := by have := congrArg List.length hmx; simpa [downTo_length] using this.symm
      subst hm0
      have hnx : nx c k.data.toList = none := by have := HA.out.step init.length (by simp); simpa using this
      simp at hu
      subst hu
      exact .entry hnx hm.ent
    case stop =>
      intro D c' pre W _ _ h _
      exact h.elim
    case body =>
      rintro l pre x W ⟨T1, hI1⟩ hlen
      have hux : init[x.val] ∈ init ++ [c] := List.mem_append_left _ (List.getElem_mem x.isLt)
      have hwu := HA.out.wf HWF.out _ hux
      have hps : init[x.val].p.size < k.size := by
        have h1 := List.pairwise_iff_getElem.1 (HA.out.inc HWF.out).1 x.val init.length (by simp; omega) (by simp) x.isLt
        simp only [List.getElem_map, List.getElem_append_left x.isLt, List.getElem_append_right (Nat.le_refl _), Nat.sub_self, List.getElem_cons_zero] at h1
        have h2 := (HA.out.pre HP.out c (by simp)).length_le
        rw [path_length] at h2
        simp at h2
        omega
      have hTu : TAt (· = nb) W init[x.val] := ((along_tat HA.out HT.out.tat _ hux).avoid (fun b hb => by have hb' : b = nb := hb; omega)).keep hI1.below
      have hnbW := lt_of_heap hI1.nbox
      have hkbW := lt_of_heap hI1.kbox
      obtain ⟨w7, HW7⟩ : ∃ w7, Hid (w7 = W.alloc (.cells #[.pointer (some ⟨T1.a, 0, none⟩)] 96)) := ⟨_, rfl⟩
      have hb7 : Below W.heap.size W w7 := by rw [HW7.out]; exact (Below.refl _ _).alloc (Nat.le_refl _) _
      have hblk7 : w7.heap[W.heap.size]? = some (.cells #[.pointer (some ⟨T1.a, 0, none⟩)] 96) := by rw [HW7.out]; exact heap_alloc_new _ _
      have HK := withKids_calls (R := (· = nb)) init[x.val] k ⟨some ⟨W.heap.size, 0, none⟩, 1, [T1]⟩ w7 (hTu.keep hb7) hwu hps hks (one_kid (by show ¬ W.heap.size = nb; omega) hblk7) (by simp) (fun t ht => by simp at ht; subst ht; exact hI1.tat.keep hb7) (fun b hb => by have hb' : b = nb := hb; have := hb7.size; omega)
      have kc : W.cell? ⟨w.heap.size, 0, none⟩ = some (.string k) := by rw [cell_of_blk hI1.kbox]; rfl
      have ncell : W.cell? ⟨nb, 0, none⟩ = some (.pointer (some ⟨T1.a, 0, none⟩)) := by rw [cell_of_blk hI1.nbox]; rfl
      have HI1 : Hid (InsI w k ⟨va, .string n, vg⟩ (init ++ [c]) init.length w.heap.size nb w6.heap.size (pre.map (·.val)) W T1) := hI1
      have HB7 : Hid (Below W.heap.size W w7) := hb7
      have HWU : Hid (WF init[x.val]) := hwu
      have HM1 : Hid (InsMid w k ⟨va, .string n, vg⟩ c init w.heap.size g nb T wc) := hm
      clear hI1 hb7 hblk7 hwu hTu hm hux
      gi_wp2_with fail
      refine ⟨trivial, ?_⟩
      rw [← HW7.out]
      refine (CallsIn.inRound l (callsIn_wide.2 HK)).mono ?_
      clear HK
      rintro e w8 ⟨a', g', rfl, hb8, ha8, hg8, hT8⟩
      have h78 : Below W.heap.size W w8 := HB7.out.trans (hb8.mono HB7.out.size)
      have nblk8 : w8.heap[nb]? = some (.cells #[.pointer (some ⟨T1.a, 0, none⟩)] 96) := (h78.block _ hnbW).trans HI1.out.nbox
      have ncell8 : w8.cell? ⟨nb, 0, none⟩ = some (.pointer (some ⟨T1.a, 0, none⟩)) := by rw [cell_of_blk nblk8]; rfl
      have nfz8 : w8.frozen? ⟨nb, 0, none⟩ = false := frozen_of_blk nblk8
      have H8 : Hid (Below W.heap.size W w8 ∧ w7.heap.size ≤ a' ∧ w7.heap.size ≤ g' ∧ w8.heap[nb]? = some (.cells #[.pointer (some ⟨T1.a, 0, none⟩)] 96)) := ⟨h78, ha8, hg8, nblk8⟩
      have HT8 : Hid (TAt (· = nb) w8 (.nd a' init[x.val].p init[x.val].v (init[x.val].ks.take (posn init[x.val].ks init[x.val].p.size k[init[x.val].p.size]) ++ [T1] ++ init[x.val].ks.drop (behindOf init[x.val] k hps)) g')) := hT8
      clear hb8 ha8 hg8 hT8 h78 nblk8
      gi_wp2_with fail
      obtain ⟨h78, ha8, hg8, nblk8⟩ := H8.out
      have hI1 := HI1.out
      have hz7 := HB7.out.size
      have hz0 := hI1.below.size
      have hgw := HM1.out.gne
      refine ⟨(keepsFrom_below h78).trans ((KeepsOthers.setCell _ _ _).from _), ⟨?_, ?_⟩, .nd a' init[x.val].p init[x.val].v (init[x.val].ks.take (posn init[x.val].ks init[x.val].p.size k[init[x.val].p.size]) ++ [T1] ++ init[x.val].ks.drop (behindOf init[x.val] k hps)) g', ?_, ?_, ?_, ?_, ?_, ?_⟩
      · rw [heap_setCell_other _ _ _ _ (by show g ≠ nb; exact hgw.1)]
        exact h78.block _ (by have := hI1.size; omega)
      · rw [heap_setCell_other _ _ _ _ (by show wc.heap.size ≠ nb; omega)]
        exact h78.block _ (by have := hI1.size; omega)
      · have h1 := hI1.size
        have h2 := h78.size
        simp
        omega
      · exact (hI1.below.trans (h78.mono hz0)).setCell (by show w.heap.size ≤ nb; omega) _
      · rw [heap_setCell_other _ _ _ _ (by show w.heap.size ≠ nb; intro e; have h1 := hI1.kbox; rw [e, hI1.nbox] at h1; simp at h1)]
        exact (h78.block _ hkbW).trans hI1.kbox
      · rw [setCell_blk nblk8]; rfl
      · exact HT8.out.poke (i := 0) rfl nblk8 (by decide) (by decide) (by decide) _
      · intro m hml hmx u hu
        rw [List.map_append] at hmx
        cases m with
        | zero => simp [downTo] at hmx
        | succ m =>
          rw [downTo_succ] at hmx
          obtain ⟨h1, h2⟩ := List.append_inj' hmx rfl
          have hxv : x.val = init.length - 1 - m := by simpa using h2
          have hu' : u = init[x.val] := by
            rw [show init.length - (m + 1) = x.val by omega, List.getElem?_append_left x.isLt, List.getElem?_eq_getElem x.isLt] at hu
            exact (Option.some.inj hu).symm
          subst hu'
          have hst := HA.out.step x.val (by simp; omega)
          rw [List.getElem_append_left x.isLt] at hst
          have hlt : init.length - m < (init ++ [c]).length := by simp; omega
          rw [show x.val + 1 = init.length - m by omega, List.getElem?_eq_getElem hlt] at hst
          exact ins_down HWU.out hps hst (hI1.rel m (by omega) h1 _ (List.getElem?_eq_getElem hlt)) (by omega) (by omega)
    case done =>
      rintro D ys W hD hys ⟨T1, hI1⟩ hK
      have hnx : nx c k.data.toList = none := by have := HA.out.step init.length (by simp); simpa using this
      have hcm : c ∈ init ++ [c] := by simp
      have hcW : TAt nR W c := (along_tat HA.out HT.out.tat c hcm).keep hI1.below
      have HVO := valueOf_calls c k W [] c (.stop hnx) hcW (HA.out.wf HWF.out c hcm) (HA.out.pre HP.out c hcm) hks
      have HR : Hid (InsR w.heap.size k ⟨va, .string n, vg⟩ t T1) := by
        refine hI1.rel init.length (Nat.le_refl _) hys t ?_
        obtain ⟨r, hr⟩ := HA.out.head
        rw [hr]; simp
      have ncell : W.cell? ⟨nb, 0, none⟩ = some (.pointer (some ⟨T1.a, 0, none⟩)) := by rw [cell_of_blk hI1.nbox]; rfl
      have kcell : W.cell? ⟨w.heap.size, 0, none⟩ = some (.string k) := by rw [cell_of_blk hI1.kbox]; rfl
      have HI1 : Hid (Below w.heap.size w W ∧ TAt (· = nb) W T1) := ⟨hI1.below, hI1.tat⟩
      have hnW := lt_of_heap hI1.nbox
      have HK : Hid (W.heap[D]? = some (.deferred (some []))) := hK
      have hDW := lt_of_heap hK
      have HHV : Hid (∀ x, valAt c k = some x → VAt W x) := fun x hx => by
        unfold valAt at hx
        split at hx
        · cases hx
        · exact hcW.val' x hx
      have hDw : w.heap.size ≤ D := Nat.le_trans h06.size hD
      clear hI1 hK hcW hnx hcm hm h06 h66 hbox6 hs6
      go_wp2_with fail
      refine HVO.mono ?_
      clear HVO
      rintro e w9 ⟨rfl, hb9⟩
      have HG := get_calls (valAt c k) w9 (fun x hx => (HHV.out x hx).below hb9)
      have t1 : w9.cell? ⟨tb, 1, none⟩ = some (.int .i64 ne) := by
        have h0W := HI1.out.1
        rw [hb9.cell (by show tb < W.heap.size; have := h0W.size; omega), h0W.cell (by exact hb0), cell_of_blk HT.out.blk]; rfl
      have ncell9 : w9.cell? ⟨nb, 0, none⟩ = some (.pointer (some ⟨T1.a, 0, none⟩)) := by rw [hb9.cell (by exact hnW)]; exact ncell
      have HB9 : Hid (Below W.heap.size W w9) := hb9
      clear hb9 ncell kcell
      go_wp2_with fail
      refine HG.mono ?_
      clear HG
      rintro e w10 ⟨rfl, rfl⟩
      obtain ⟨hv, HHD⟩ : ∃ hv, Hid (hv = held (valAt c k)) := ⟨_, rfl⟩
      rw [← HHD.out]
      obtain ⟨had, HS⟩ : ∃ had, Hid (had = (valAt c k).isSome) := ⟨_, rfl⟩
      rw [← HS.out]
      cases had
      · have HPN : Hid (plusNew (valAt c k) = 1) := by show _ = _; unfold plusNew; rw [← HS.out]; rfl
        go_wp2_with fail
        obtain ⟨e1, e2, e3, e4⟩ := ins_end (m := ne + 1) (nb := nb) HI1.out.1 HB9.out HI1.out.2 HK.out hDw
        refine ⟨by simp, .inl ⟨_, _, rfl, run_takeDeferred e1, ?_⟩⟩
        exact ⟨.tuple #[.pointer (some ⟨w10.heap.size, 0, none⟩), hv, .bool false], by simp [results, Try.f15, go_sem], w10.heap.size, T1, va, vg, by rw [HHD.out, HS.out], e2, by rw [HPN.out]; exact e3, HR.out, HM.out.va.1, HM.out.va.2, e4⟩
      · have HPN : Hid (plusNew (valAt c k) = 0) := by show _ = _; unfold plusNew; rw [← HS.out]; rfl
        go_wp2_with fail
        obtain ⟨e1, e2, e3, e4⟩ := ins_end (m := ne) (nb := nb) HI1.out.1 HB9.out HI1.out.2 HK.out hDw
        refine ⟨by simp, .inl ⟨_, _, rfl, run_takeDeferred e1, ?_⟩⟩
        exact ⟨.tuple #[.pointer (some ⟨w10.heap.size, 0, none⟩), hv, .bool true], by simp [results, Try.f15, go_sem], w10.heap.size, T1, va, vg, by rw [HHD.out, HS.out], e2, by rw [HPN.out, Int.add_zero]; exact e3, HR.out, HM.out.va.1, HM.out.va.2, e4⟩

/-- New: a tree of one node. -/
theorem newTree_calls (w : World) : Calls Try.prog 13 #[] w fun e w' => ∃ tb a g, e = .returned (.pointer (some ⟨tb, 0, none⟩)) ∧ Below w.heap.size w w' ∧ TreeAt w' tb (.nd a ⟨#[]⟩ none [] g) 0 ∧ w.heap.size ≤ tb ∧ w.heap.size ≤ a ∧ w.heap.size ≤ g := by
  go_enter Try.func13, Try.ntmps13
  go_wp2_with fail
  refine (newNode_calls _ _ _ _ _ w).mono ?_
  rintro e w1 ⟨rfl, hb1, hs1, hn1, hw1⟩
  have H1 : Hid (Below w.heap.size w w1 ∧ w1.heap.size = w.heap.size + 3 ∧ TAt nR w1 (.nd (w.heap.size + 2) ⟨#[]⟩ none [] (w.heap.size + 1))) :=
    ⟨hb1, hs1, TAt.laid (x := ⟨none, 0, []⟩) hn1 ⟨fun i hi => by simp at hi, Nat.le_refl _, fun _ => rfl⟩ (fun y hy => by cases hy) hw1 (fun t ht => by simp at ht) (by decide)⟩
  clear hb1 hs1 hn1 hw1
  go_wp2
  go_ret
  obtain ⟨hb1, hs1, hT⟩ := H1.out
  have h2 : Below w1.heap.size w1 (w1.alloc (.cells #[.pointer (some ⟨w.heap.size + 2, 0, none⟩), .int .i64 0] 99)) := (Below.refl _ _).alloc (Nat.le_refl _) _
  exact ⟨w1.heap.size, w.heap.size + 2, w.heap.size + 1, rfl, hb1.trans (h2.mono hb1.size), ⟨heap_alloc_new _ _, hT.keep h2⟩, hb1.size, by omega, by omega⟩

theorem len_calls (tb : Nat) (t : Tr) (n : Int) (w : World) (h : TreeAt w tb t n) : Calls Try.prog 23 #[.pointer (some ⟨tb, 0, none⟩)] w fun e w' => e = .returned (.int .i64 n) ∧ w' = w := by
  have c1 : w.cell? ⟨tb, 1, none⟩ = some (.int .i64 n) := by rw [cell_of_blk h.blk]; rfl
  clear h
  go_enter Try.func23, Try.ntmps23
  go_wp2
  go_ret
  exact ⟨rfl, rfl⟩

theorem reach_tree (tb : Nat) (t : Tr) (n : Int) (k : ByteArray) (w : World) (init : List Tr) (c : Tr) (h : TreeAt w tb t n) (hw : WF t) (hp : t.path <+: k.data.toList) (hks : k.size ≤ 140737488351232) (hA : Along k.data.toList t (init ++ [c])) :
    Calls Try.prog 20 #[.pointer (some ⟨tb, 0, none⟩), .string k] w fun e w' => e = .returned (.string c.p) ∧ Below w.heap.size w w' := by
  have c0 : w.cell? ⟨tb, 0, none⟩ = some (.pointer (some ⟨t.a, 0, none⟩)) := by rw [cell_of_blk h.blk]; rfl
  have HV := reach_calls t k w init c hA h.tat hw hp hks
  have hT := along_tat hA h.tat c (by simp)
  obtain ⟨-, -, d0, -, -, -, -, -, -⟩ := hT.cells
  have ha := hT.lt
  clear h hw hp hA hT
  go_enter Try.func20, Try.ntmps20
  go_wp2_with fail
  refine HV.mono ?_
  clear HV
  rintro e w1 ⟨rfl, hb1⟩
  have d0' : w1.cell? ⟨c.a, 0, none⟩ = some (.string c.p) := by rw [hb1.cell (by exact ha)]; exact d0
  have HB : Hid (Below w.heap.size w w1) := hb1
  clear hb1 c0 d0
  go_wp2
  go_ret
  exact ⟨rfl, HB.out⟩

theorem enters_longest (args : Array Value) (W : World) : (callFunc 57 args).run Try.prog W = .ok (.enter 57 args) W := by
  have := Try.func57
  go_simp

theorem longestK_calls (u : Tr) (b : Nat) (x : Option Addr) (w : World) (hu : TAt nR w u) (hb : w.heap[b]? = some (.cells #[.pointer x] 96)) :
    Calls Try.prog 57 #[.pointer (some ⟨u.a, 0, none⟩), .pointer (some ⟨b, 0, none⟩)] w fun e w' => e = .returned (.tuple #[]) ∧ w' = if u.v.isSome then w.setCell ⟨b, 0, none⟩ (.pointer (some ⟨u.a, 0, none⟩)) else w := by
  obtain ⟨-, -, -, c1, -, -, -, -, -⟩ := hu.cells
  have c0 : w.cell? ⟨b, 0, none⟩ = some (.pointer x) := by rw [cell_of_blk hb]; rfl
  have z0 : w.frozen? ⟨b, 0, none⟩ = false := frozen_of_blk hb
  clear hb hu
  cases hv : u.v with
  | none =>
    rw [hv] at c1
    simp only [vptr] at c1
    simp only [Option.isSome_none, Bool.false_eq_true, if_false]
    clear hv
    go_enter Try.func57, Try.ntmps57
    go_wp2
    go_end0
    exact ⟨rfl, rfl⟩
  | some y =>
    rw [hv] at c1
    simp only [vptr] at c1
    simp only [Option.isSome_some, if_true]
    clear hv
    go_enter Try.func57, Try.ntmps57
    go_wp2
    go_end0
    exact ⟨rfl, rfl⟩

structure LI (w : World) (t : Tr) (l : List Tr) (i : Nat) (W : World) : Prop where
  below : Below w.heap.size w W
  box : W.heap[w.heap.size]? = some (.cells #[.pointer (some ⟨(best t (l.take i)).a, 0, none⟩)] 96)

theorem entry_tree (c : Tr) (w : World) (h : TAt nR w c) : Calls Try.prog 58 #[.pointer (some ⟨c.a, 0, none⟩)] w fun e w' => e = .returned (.tuple #[.string c.p, held c.v, .bool c.v.isSome]) ∧ w' = w := by
  obtain ⟨-, -, c0, c1, -, -, -, -, -⟩ := h.cells
  have HG := get_calls c.v w h.val'
  clear h
  go_enter Try.func58, Try.ntmps58
  go_wp2_with fail
  refine HG.mono ?_
  clear HG
  rintro e w1 ⟨rfl, rfl⟩
  go_wp2
  refine bodyPost_ret (v := .tuple #[.string c.p, held c.v, .bool c.v.isSome]) (by simp [results, Try.results58, go_sem]) rfl ⟨rfl, rfl⟩

set_option maxRecDepth 100000 in
theorem longest_tree (tb : Nat) (t : Tr) (n : Int) (k : ByteArray) (w : World) (l : List Tr) (h : TreeAt w tb t n) (hw : WF t) (hp : t.path <+: k.data.toList) (hks : k.size ≤ 140737488351232) (hA : Along k.data.toList t l) (hb : TAt nR w (best t l)) :
    Calls Try.prog 18 #[.pointer (some ⟨tb, 0, none⟩), .string k] w fun e w' => e = .returned (.tuple #[.string (best t l).p, held (best t l).v, .bool (best t l).v.isSome]) ∧ Below w.heap.size w w' := by
  have hmf : ∀ (fn : Fn) (first cap : Array Value) (w : World), (Instr.makeFunc fn first cap).run Try.prog w = .ok (.func fn first cap) w := fun _ _ _ _ => rfl
  have c0 : w.cell? ⟨tb, 0, none⟩ = some (.pointer (some ⟨t.a, 0, none⟩)) := by rw [cell_of_blk h.blk]; rfl
  have htb := lt_of_heap h.blk
  obtain ⟨w1, HW1⟩ : ∃ w1, Hid (w1 = w.alloc (.cells #[.pointer (some ⟨t.a, 0, none⟩)] 96)) := ⟨_, rfl⟩
  have hb1 : Below w.heap.size w w1 := by rw [HW1.out]; exact (Below.refl _ _).alloc (Nat.le_refl _) _
  have hbox : w1.heap[w.heap.size]? = some (.cells #[.pointer (some ⟨t.a, 0, none⟩)] 96) := by rw [HW1.out]; exact heap_alloc_new w _
  have c0' : w1.cell? ⟨tb, 0, none⟩ = some (.pointer (some ⟨t.a, 0, none⟩)) := by rw [hb1.cell (by exact htb)]; exact c0
  have HA := along_calls 57 enters_longest (.pointer (some ⟨w.heap.size, 0, none⟩)) t k l (LI w t l) w1 hA hw hp hks
    ⟨hb1, by rw [hbox]; simp [best]⟩
    (fun i W W' hi hb => ⟨hi.below.trans (hb.mono hi.below.size), by rw [hb.block _ (lt_of_heap hi.box)]; exact hi.box⟩)
    (fun i W hi => h.tat.keep hi.below)
    (fun i hi W hI hT => (longestK_calls l[i] _ _ W hT hI.box).mono (by
      rintro e W' ⟨rfl, rfl⟩
      refine ⟨rfl, ?_, ?_⟩
      · split
        · exact hI.below.setCell (Nat.le_refl _) _
        · exact hI.below
      · rw [List.take_succ_eq_append_getElem hi, best_snoc]
        split
        · rw [setCell_blk hI.box]; simp
        · exact hI.box))
  have HB0 : Hid (TAt nR w (best t l)) := hb
  obtain ⟨b, HBE⟩ : ∃ b, Hid (b = best t l) := ⟨_, rfl⟩
  rw [← HBE.out]
  rw [← HBE.out] at HB0
  clear h hw hp hA hbox hb hb1
  go_enter Try.func18, Try.ntmps18
  go_wp2_with fail
  rw [← HW1.out]
  refine HA.mono ?_
  clear HA
  rintro e w2 ⟨rfl, hI⟩
  have hbx := hI.box
  rw [List.take_length, ← HBE.out] at hbx
  have c2 : w2.cell? ⟨w.heap.size, 0, none⟩ = some (.pointer (some ⟨b.a, 0, none⟩)) := by rw [cell_of_blk hbx]; rfl
  have HE := entry_tree b w2 (HB0.out.keep hI.below)
  have HB2 : Hid (Below w.heap.size w w2) := hI.below
  clear hI hbx c0'
  go_wp2_with fail
  refine HE.mono ?_
  clear HE
  rintro e w3 ⟨rfl, rfl⟩
  go_wp2
  exact bodyPost_ret (v := .tuple #[.string b.p, held b.v, .bool b.v.isSome]) (by simp [results, Try.results18, go_sem]) rfl ⟨rfl, HB2.out⟩

end Go.Proofs.Ytedgaiblcpekaab.S
