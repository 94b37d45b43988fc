import Derived.Test.YtcdfbbjakkmmoaaRHas0
import Derived.Test.YtcdfbbjakkmmoaaRGet
import Derived.Test.YtcdfbbjakkmmoaaXKidsM
import Derived.Test.YtcdfbbjakkmmoaaXLaw
import Derived.Deep.CutRange
import Derived.Test.YtcdfbbjakkmmoaaXRemade
import Derived.Test.YtcdfbbjakkmmoaaXBuilt4
import Derived.Deep.RegionWith
/- Layer 3 (radix): Root, Path, Value. -/
namespace Go.Proofs.Ytcdfbbjakkmmoaa
open Go.RowKit
set_option linter.unusedVariables false
variable {R : Rg} {O : Nat → Prop}

def nodeV (t : Tr) : Value := .agg #[.pointer (some ⟨t.a, 0, none⟩)]

set_option maxRecDepth 100000 in
theorem root_calls (tb : Nat) (t : Tr) (n : Int) (w : World) (h : TreeAt w tb t n) : Calls Try.prog 12 #[.pointer (some ⟨tb, 0, none⟩)] w fun e w' => e = .returned (nodeV t) ∧ Below w.heap.size w w' := by
  have c0 : w.cell? ⟨tb, 0, none⟩ = some (.pointer (some ⟨t.a, 0, none⟩)) := by rw [cell_of_blk h.blk]; rfl
  have hb := lt_of_heap h.blk
  clear h
  go_enter Try.func12, Try.ntmps12
  go_wp2
  exact bodyPost_ret (v := nodeV t) (by simp [results, Try.results12, go_sem, nodeV]) rfl ⟨rfl, (Below.refl _ w).alloc (Nat.le_refl _) _⟩

set_option maxRecDepth 100000 in
theorem path_calls (t : Tr) (w : World) (h : TAt R w t) : Calls Try.prog 37 #[nodeV t] w fun e w' => e = .returned (.string t.p) ∧ Below w.heap.size w w' := by
  obtain ⟨ao, cap, c0, -, -, -, -, -, -⟩ := h.cells
  have ha := h.lt
  clear h
  unfold nodeV
  go_enter Try.func37, Try.ntmps37
  go_wp2
  go_ret
  exact ⟨rfl, (Below.refl _ w).alloc (Nat.le_refl _) _⟩

set_option maxRecDepth 100000 in
theorem value_calls (t : Tr) (w : World) (h : TAt R w t) : Calls Try.prog 36 #[nodeV t] w fun e w' => e = .returned (.tuple #[held t.v, .bool t.v.isSome]) ∧ Below w.heap.size w w' := by
  obtain ⟨ao, cap, -, c1, -, -, -, -, -⟩ := h.cells
  have ha := h.lt
  have HV : Hid (∀ x, t.v = some x → VAt R.old w x) := h.val'
  clear h
  unfold nodeV
  obtain ⟨w1, HW1⟩ : ∃ w1, Hid (w1 = w.alloc (.cells #[.pointer (some ⟨t.a, 0, none⟩)] 37)) := ⟨_, rfl⟩
  have hb1 : Below w.heap.size w w1 := by rw [HW1.out]; exact (Below.refl _ _).alloc (Nat.le_refl _) _
  have HG := get_calls t.v w1 (fun x hx => (HV.out x hx).below hb1)
  have HB1 : Hid (Below w.heap.size w w1) := hb1
  clear hb1
  go_enter Try.func36, Try.ntmps36
  go_wp2_with fail
  rw [← HW1.out]
  refine HG.mono ?_
  rintro e w2 ⟨rfl, rfl⟩
  obtain ⟨hv, HHD⟩ : ∃ hv, Hid (hv = held t.v) := ⟨_, rfl⟩
  rw [← HHD.out]
  go_wp2_with fail
  go_ret2
  rw [HHD.out]
  exact ⟨rfl, HB1.out⟩
end Go.Proofs.Ytcdfbbjakkmmoaa

/- Layer 3 (radix): Kids. -/
namespace Go.Proofs.Ytcdfbbjakkmmoaa
open Go.RowKit
set_option linter.unusedVariables false
variable {R : Rg} {O : Nat → Prop}

structure KidI (w : World) (t : Tr) (i : Nat) (W : World) : Prop where
  below : Below w.heap.size w W
  row : ∃ M : Array Value, W.heap[w.heap.size + 1]? = some (.cells M 37) ∧ M.size = t.ks.length ∧ ∀ j (h : j < t.ks.length), j < i → M[j]? = some (.pointer (some ⟨t.ks[j].a, 0, none⟩))

theorem KidI.next {w W : World} {t : Tr} {i : Nat} (h : KidI w t i W) (hi : i < t.ks.length) : KidI w t (i + 1) (W.setCell ⟨w.heap.size + 1, i, none⟩ (.pointer (some ⟨t.ks[i].a, 0, none⟩))) := by
  obtain ⟨M, h1, h2, h3⟩ := h.row
  refine ⟨h.below.setCell (by show w.heap.size ≤ w.heap.size + 1; omega) _, M.setIfInBounds i (.pointer (some ⟨t.ks[i].a, 0, none⟩)), ?_, ?_, ?_⟩
  · rw [setCell_blk h1]
  · simp [h2]
  · intro j hj hji
    rcases Nat.lt_or_ge j i with hc | hc
    · rw [Array.getElem?_setIfInBounds_ne (by omega)]
      exact h3 j hj hc
    · have : j = i := by omega
      subst this
      rw [Array.getElem?_setIfInBounds_self_of_lt (by omega)]

set_option maxRecDepth 100000 in
theorem kids_blk (t : Tr) (w : World) (h : TAt R w t) (hf : t.ks.length ≤ 1000) : Calls Try.prog 38 #[nodeV t] w fun e w' => ∃ kb, e = .returned (.slice (some ⟨kb, 0, none⟩) t.ks.length t.ks.length) ∧ Below w.heap.size w w' ∧ w.heap.size ≤ kb ∧ ∃ M : Array Value, w'.heap[kb]? = some (.cells M 37) ∧ M.size = t.ks.length ∧ ∀ i (h : i < t.ks.length), M[i]? = some (.pointer (some ⟨t.ks[i].a, 0, none⟩)) := by
  obtain ⟨ao, cap, -, -, c2, -, hk, hr, hn⟩ := h.cells
  have ha := h.lt
  have HK : Hid (KidsAt R w ao t.ks) := hk
  clear h hk
  obtain ⟨i0, hi, hz0, hz1, hz2⟩ : ∃ i0, Try.prog.info? 37 = some i0 ∧ i0.zero = some (.agg #[.pointer none]) ∧ i0.size = 1 ∧ i0.bytes = 8 := by
    have h0 : (Try.prog.info? 37).map (fun i => (i.zero, i.size, i.bytes)) = some (some (.agg #[.pointer none]), 1, 8) := by kernel_rfl
    cases h1 : Try.prog.info? 37 with
    | none => rw [h1] at h0; cases h0
    | some i0 => rw [h1] at h0; simp at h0; exact ⟨i0, rfl, h0.1, h0.2.1, h0.2.2⟩
  obtain ⟨M, HM⟩ : ∃ M, M = madeCells (Value.agg #[.pointer none]).cells (((t.ks.length : Nat) : Int).toNat * i0.size) := ⟨_, rfl⟩
  have hMs : M.size = t.ks.length := by rw [HM, size_madeCells, hz1]; simp
  have hmake : ∀ W : World, (Instr.makeSlice 85 (.int .i64 (t.ks.length : Int)) (.int .i64 (t.ks.length : Int))).run Try.prog W = .ok (.slice (some ⟨W.heap.size, 0, none⟩) t.ks.length t.ks.length) (W.alloc (.cells M 37)) := fun W => by
    have h := run_make (P := Try.prog) W 85 37 i0 (.agg #[.pointer none]) Try.underlying85 hi hz0 .i64 .i64 (t.ks.length : Int) (t.ks.length : Int) (by omega) (by omega) (by rw [hz2]; omega) (by omega)
    rw [← HM] at h
    simpa using h
  clear HM hi hz0 hz1 hz2
  unfold nodeV
  go_enter Try.func38, Try.ntmps38
  go_wp2_with fail
  have HI0 : Hid (KidI w t 0 ((w.alloc (.cells #[.pointer (some ⟨t.a, 0, none⟩)] 37)).alloc (.cells M 37))) := by
    have hs : (w.alloc (.cells #[.pointer (some ⟨t.a, 0, none⟩)] 37)).heap.size = w.heap.size + 1 := by simp [World.size_alloc]
    refine ⟨((Below.refl _ w).alloc (Nat.le_refl _) _).alloc (by omega) _, M, ?_, hMs, fun j hj h0 => by omega⟩
    rw [← hs]; exact heap_alloc_new _ _
  go_loopw [19] (fun i wr => ∃ j : Nat, j ≤ t.ks.length ∧ i = .int .i64 j ∧ Hid (KidI w t j wr)) (fun i _ => t.ks.length - (intOf i).toNat)
  case atStart => exact ⟨0, Nat.zero_le _, rfl, HI0⟩
  case round =>
    obtain ⟨j, hj, rfl, HI⟩ := hrel
    by_cases hlt : j < t.ks.length
    · obtain ⟨b, off, rfl, hc, -⟩ := (HK.out.below HI.out.below) j hlt
      obtain ⟨M1, m1, m2, m3⟩ := HI.out.row
      obtain ⟨y0, kc⟩ : ∃ y0, wr.cell? ⟨w.heap.size + 1, j, none⟩ = some y0 := ⟨M1[j], by rw [cell_of_blk m1]; simp [m2, hlt]⟩
      have kz : wr.frozen? ⟨w.heap.size + 1, j, none⟩ = false := frozen_of_blk m1
      have HI2 : Hid _ := HI.out.next hlt
      clear m1 m2 m3
      go_wp2_with fail
      go_roundw
      case rel => exact ⟨j + 1, by omega, by go_num, HI2⟩
      case measure => simp [intOf]; omega
    · have hjl : j = t.ks.length := by omega
      subst hjl
      go_wp2_with fail
      go_ret
      obtain ⟨M1, m1, m2, m3⟩ := HI.out.row
      exact ⟨w.heap.size + 1, rfl, HI.out.below, by omega, M1, m1, m2, fun i h => m3 i h h⟩
theorem kids_calls (t : Tr) (w : World) (h : TAt R w t) (hf : t.ks.length ≤ 1000) : Calls Try.prog 38 #[nodeV t] w fun e w' => ∃ kb, e = .returned (.slice (some ⟨kb, 0, none⟩) t.ks.length t.ks.length) ∧ Below w.heap.size w w' ∧ w.heap.size ≤ kb ∧ ∀ i (h : i < t.ks.length), w'.cell? ⟨kb, i, none⟩ = some (.pointer (some ⟨t.ks[i].a, 0, none⟩)) := by
  refine (kids_blk t w h hf).mono ?_
  rintro e w' ⟨kb, rfl, hb, hk, M, m1, m2, m3⟩
  exact ⟨kb, rfl, hb, hk, fun i h => by rw [cell_of_blk m1]; exact m3 i h⟩
end Go.Proofs.Ytcdfbbjakkmmoaa

/- Layer 4 (walk): bound, give. -/
namespace Go.Proofs.Ytcdfbbjakkmmoaa
open Go.RowKit Go.Shelf
set_option linter.unusedVariables false
attribute [local go_sem] Oper.semAt_some

/-! ### bound -/
def cutB (lo p : ByteArray) : ByteArray := if begB lo.data.toList p.data.toList then lo.extract p.size lo.size else lo

def bndL (pc lo : ByteArray) : ByteArray := if Lt (kyb pc) (kyb lo) then cutB lo pc else ⟨#[]⟩
def bndB (pc lo : ByteArray) : Bool := if Lt (kyb pc) (kyb lo) then begB lo.data.toList pc.data.toList else true

/-! ### rounds -/
theorem wide_room (k : Nat) : Fence.wide.room k := fun d h => by cases h
theorem RoundIn.anyW {m m' : Nat} {P : Program} {l : Nat} {f : FuncId} {tmps : Array Value} {assign body : Code} {w : World} {R : Ending → World → Prop}
    (h : RoundIn Fence.wide m P l f tmps assign body w R) : RoundIn Fence.wide m' P l f tmps assign body w R := ⟨h.1, fun c cs _ => h.2 c cs (wide_room _)⟩
theorem YieldAt.anyW {m : Nat} (m' : Nat) {P : Program} {l : Nat} {args : Array Value} {W : World} {R : Ending → World → Prop} (h : YieldAt Fence.wide m P l args W R) : YieldAt Fence.wide m' P l args W R := by
  obtain ⟨fn, tmps, assign, body, hy, hR⟩ := h
  exact ⟨fn, tmps, assign, body, hy, RoundIn.anyW hR⟩

/-- The entries that are given. -/
abbrev El (es : List En) := { e : En // e ∈ es }
def encE (es : List En) (x : El es) : Array Value := #[.string x.1.1, .int .i64 x.1.2]
def Abs {β : Type} (J : β → World → Prop) : Prop := ∀ s A B, J s A → Below A.heap.size A B → J s B

end Go.Proofs.Ytcdfbbjakkmmoaa

/- Layer 4 (walk): rise. -/
namespace Go.Proofs.Ytcdfbbjakkmmoaa
open Go.RowKit Go.Shelf
set_option linter.unusedVariables false

/-! ### which entries -/
def notLt (b : List UInt8) (e : En) : Bool := !decide (Lt (kyl e) b)
/-- The entries at t and beneath from t's path with lo behind it on. -/
def fil (n : Nat) (t : Tr) (lo : ByteArray) : List En := (ents n t).filter (notLt (t.path ++ kyb lo))
def ownF (t : Tr) (lo : ByteArray) : List En := if lo.size = 0 then ownE t else []
def pcOf (t c : Tr) : ByteArray := c.p.extract t.p.size c.p.size
def kidF (n : Nat) (t : Tr) (lo : ByteArray) (c : Tr) : List En := if bndB (pcOf t c) lo = true then fil n c (bndL (pcOf t c) lo) else []

theorem kyb_empty {lo : ByteArray} (h : lo.size = 0) : kyb lo = [] := List.length_eq_zero_iff.1 (by rw [kyb_len]; exact h)
theorem filter_all {α : Type} {p : α → Bool} {l : List α} (h : ∀ x ∈ l, p x = true) : l.filter p = l := List.filter_eq_self.2 h
theorem filter_none' {α : Type} {p : α → Bool} {l : List α} (h : ∀ x ∈ l, p x = false) : l.filter p = [] := by
  rw [List.filter_eq_nil_iff]; intro a ha; rw [h a ha]; simp
theorem pc_path {t c : Tr} (hw : WF t) (hc : c ∈ t.ks) : c.path = t.path ++ kyb (pcOf t c) := by
  obtain ⟨z, hz⟩ := (hw.ext' c hc).1
  have : kyb (pcOf t c) = c.path.drop t.p.size := by unfold kyb pcOf Tr.path; exact extract_drop _ _
  rw [this, ← hz, ← path_length, List.drop_left]
theorem ownF_fil (t : Tr) (lo : ByteArray) : (ownE t).filter (notLt (t.path ++ kyb lo)) = ownF t lo := by
  unfold ownF
  have hk : ∀ x ∈ ownE t, kyl x = t.path := by
    intro x hx
    unfold ownE at hx
    split at hx
    · simp at hx; subst hx; rfl
    · cases hx
  split
  · rename_i h
    rw [kyb_empty h, List.append_nil]
    exact filter_all fun x hx => by unfold notLt; rw [hk x hx]; simp [lt_irr]
  · rename_i h
    refine filter_none' fun x hx => ?_
    unfold notLt
    rw [hk x hx]
    have : Lt t.path (t.path ++ kyb lo) := pre_lt ⟨_, rfl⟩ (by simp [kyb_len]; omega)
    simp [this]
theorem kid_fil {n : Nat} {t c : Tr} (hw : WF t) (hc : c ∈ t.ks) (lo : ByteArray) : (ents n c).filter (notLt (t.path ++ kyb lo)) = kidF n t lo c := by
  have hp := pc_path hw hc
  have hpre : ∀ x ∈ ents n c, ∃ z, kyl x = t.path ++ kyb (pcOf t c) ++ z := fun x hx => by
    obtain ⟨z, hz⟩ := ents_pre (hw.kids' _ hc) hx
    exact ⟨z, by rw [← hz, hp]⟩
  unfold kidF bndB bndL
  by_cases h : Lt (kyb (pcOf t c)) (kyb lo)
  · rw [if_pos h, if_pos h]
    by_cases hb : begB lo.data.toList (pcOf t c).data.toList = true
    · rw [if_pos hb]
      have hb' : kyb (pcOf t c) <+: kyb lo := List.isPrefixOf_iff_prefix.1 hb
      unfold fil cutB
      rw [if_pos hb]
      have e : kyb (lo.extract (pcOf t c).size lo.size) = (kyb lo).drop (kyb (pcOf t c)).length := by rw [kyb_len]; exact extract_drop _ _
      obtain ⟨z, hz⟩ := hb'
      rw [e, ← hz, List.drop_left, hp, List.append_assoc]
    · rw [if_neg hb]
      have hb' : ¬ kyb (pcOf t c) <+: kyb lo := fun h => hb (List.isPrefixOf_iff_prefix.2 h)
      refine filter_none' fun x hx => ?_
      obtain ⟨z, hz⟩ := hpre x hx
      have : Lt (kyl x) (t.path ++ kyb lo) := by rw [hz, List.append_assoc, lt_common]; exact lt_more h hb' z
      simp [notLt, this]
  · rw [if_neg h, if_neg h, if_pos rfl]
    unfold fil
    rw [filter_all, filter_all]
    · intro x hx
      have : kyb (⟨#[]⟩ : ByteArray) = [] := rfl
      have h2 : ¬ Lt (kyl x) c.path := pre_not_lt (ents_pre (hw.kids' _ hc) hx)
      simp [notLt, this, h2]
    · intro x hx
      obtain ⟨z, hz⟩ := hpre x hx
      have : ¬ Lt (kyl x) (t.path ++ kyb lo) := by rw [hz, List.append_assoc, lt_common]; exact not_lt_more h z
      simp [notLt, this]
theorem flatMap_filter' {α β : Type} (p : β → Bool) (f g : α → List β) : ∀ (l : List α), (∀ a ∈ l, (f a).filter p = g a) → (l.flatMap f).filter p = l.flatMap g
  | [], _ => rfl
  | a :: l, h => by rw [List.flatMap_cons, List.filter_append, h a (by simp), flatMap_filter' p f g l (fun b hb => h b (by simp [hb])), List.flatMap_cons]
theorem fil_succ {n : Nat} {t : Tr} (hw : WF t) (lo : ByteArray) : fil (n + 1) t lo = ownF t lo ++ t.ks.flatMap (kidF n t lo) := by
  unfold fil
  show (ownE t ++ t.ks.flatMap (ents n)).filter _ = _
  rw [List.filter_append, ownF_fil, flatMap_filter' _ _ (kidF n t lo) t.ks (fun c hc => kid_fil hw hc lo)]
/-- From the root on. -/
theorem fil_root {n : Nat} {t : Tr} (hr : t.p = kE) (lo : ByteArray) : fil n t lo = (ents n t).filter (notLt (kyb lo)) := by
  unfold fil; rw [show t.path = [] by unfold Tr.path; rw [hr]]; rfl

theorem bndL_size (pc lo : ByteArray) : (bndL pc lo).size ≤ lo.size := by
  unfold bndL cutB
  split
  · split
    · have := kyb_len (lo.extract pc.size lo.size)
      rw [← this]
      have e : kyb (lo.extract pc.size lo.size) = (kyb lo).drop pc.size := extract_drop _ _
      rw [e, List.length_drop, kyb_len]; omega
    · exact Nat.le_refl _
  · exact Nat.zero_le _
theorem pcOf_size (t c : Tr) : (pcOf t c).size ≤ c.p.size := by
  have := kyb_len (pcOf t c)
  rw [← this]
  have e : kyb (pcOf t c) = (kyb c.p).drop t.p.size := extract_drop _ _
  rw [e, List.length_drop, kyb_len]; omega
theorem take_flat {α β : Type} (f : α → List β) (l : List α) (j : Nat) (hj : j < l.length) : (l.take (j + 1)).flatMap f = (l.take j).flatMap f ++ f l[j] := by
  rw [List.take_succ_eq_append_getElem hj, List.flatMap_append]; simp
theorem take_flat_pre {α β : Type} (f : α → List β) (l : List α) (j : Nat) : (l.take j).flatMap f <+: l.flatMap f := by
  conv => rhs; rw [← List.take_append_drop j l]
  rw [List.flatMap_append]; exact ⟨_, rfl⟩

end Go.Proofs.Ytcdfbbjakkmmoaa

/- The document's From over sorted lists. -/
namespace Go.Proofs.Ytcdfbbjakkmmoaa
open Go.RowKit
set_option linter.unusedVariables false

/-- The places of the entries at which p holds, among the first j. -/
def idxTo (p : En → Bool) (es : List En) (j : Nat) : List Nat := (List.range j).filter fun i => p (es.getD i (⟨#[]⟩, 0))
theorem idxTo_succ (p : En → Bool) (es : List En) (j : Nat) (hj : j < es.length) : idxTo p es (j + 1) = idxTo p es j ++ (if p es[j] then [j] else []) := by
  unfold idxTo
  rw [List.range_succ, List.filter_append]
  congr 1
  simp [List.filter_cons, hj]
theorem idxTo_len (p : En → Bool) (es : List En) (j : Nat) : (idxTo p es j).length ≤ j := by
  have := List.length_filter_le (fun i => p (es.getD i (⟨#[]⟩, 0))) (List.range j)
  simpa [idxTo] using this
theorem idxTo_map (p : En → Bool) (es : List En) (j : Nat) (hj : j ≤ es.length) : (idxTo p es j).map (fun i => es.getD i (⟨#[]⟩, 0)) = (es.take j).filter p := by
  induction j with
  | zero => simp [idxTo]
  | succ j ih =>
    rw [idxTo_succ p es j (by omega), List.map_append, ih (by omega), List.take_succ_eq_append_getElem (by omega : j < es.length), List.filter_append]
    congr 1
    by_cases h : p es[j] = true
    · simp [h, show j < es.length by omega]
    · simp [h]
theorem idxTo_lt (p : En → Bool) (es : List En) (j : Nat) : ∀ i ∈ idxTo p es j, i < j := fun i hi => by
  have := (List.mem_filter.1 hi).1
  simpa using this
def natV (l : List Nat) : List Value := ints (l.map (fun i : Nat => (i : Int)))
theorem natV_length (l : List Nat) : (natV l).length = l.length := by simp [natV, ints]

structure IdI (w : World) (tc : Array Value) (l : List Nat) (ao : Option Addr) (n cap : Nat) (W : World) : Prop where
  below : Below w.heap.size w W
  tb : W.heap[w.heap.size]? = some (.cells tc 28)
  own : OwnV W w.heap.size 3 (.slice ao n cap) (natV l)
theorem IdI.keep {w : World} {tc : Array Value} {l : List Nat} {ao : Option Addr} {n cap : Nat} {W W' : World} (h : IdI w tc l ao n cap W) (hb : Below W.heap.size W W') : IdI w tc l ao n cap W' := ⟨h.below.trans (hb.mono h.below.size), (hb.block _ (lt_of_heap h.tb)).trans h.tb, h.own.below hb⟩

end Go.Proofs.Ytcdfbbjakkmmoaa

/- Layer 4 (walk): these. -/
namespace Go.Proofs.Ytcdfbbjakkmmoaa
open Go.RowKit
set_option linter.unusedVariables false

structure ThI (w : World) (tc : Array Value) (W : World) : Prop where
  below : Below w.heap.size w W
  tb : W.heap[w.heap.size]? = some (.cells tc 28)

end Go.Proofs.Ytcdfbbjakkmmoaa

/- Layer 4 (walk): From, All. -/
namespace Go.Proofs.Ytcdfbbjakkmmoaa
open Go.RowKit Go.Shelf
set_option linter.unusedVariables false

theorem ownFrom_abs {β : Type} {B : Nat} {J : β → World → Prop} (h : OwnM B J) : Abs J := fun s A C hs hb => h s A C none hs ⟨hb.os, hb.tape, hb.output, hb.size, fun k hk _ => hb.block k hk⟩ (fun r e => by cases e)

/-- A tree that lay in w₀, and what is said of it. -/
structure Tin (w₀ : World) (tb : Nat) (T : Tr) (ne : Int) (d : Nat) : Prop where
  tree : TreeAt w₀ tb T ne
  wf : WF T
  dep : Dep (d + 1) T
  root : T.p = kE
theorem Held.tin {w W : World} {tb : Nat} {T : Tr} {ne : Int} {d : Nat} {es : List En} (h : Held w W tb T ne d es) : Tin W tb T ne d := ⟨h.good.tree, h.good.wf, h.good.dep, h.good.root⟩

/-- The two boxes that From lays. -/
theorem from_boxes {w w1 : World} {ao : Option Addr} {lo : ByteArray} (h : w1 = (w.alloc (.cells #[.pointer ao] 24)).alloc (.cells #[.string lo] 9)) :
    Below w.heap.size w w1 ∧ w1.heap.size = w.heap.size + 2 ∧ w1.cell? ⟨w.heap.size, 0, none⟩ = some (.pointer ao) ∧ w1.cell? ⟨w.heap.size + 1, 0, none⟩ = some (.string lo) := by
  subst h
  have e1 : ((w.alloc (.cells #[.pointer ao] 24)).alloc (.cells #[.string lo] 9)).heap[w.heap.size]? = some (.cells #[.pointer ao] 24) := by
    rw [Below.heap_alloc _ _ _ (by simp)]; exact heap_alloc_new _ _
  have e2 : ((w.alloc (.cells #[.pointer ao] 24)).alloc (.cells #[.string lo] 9)).heap[w.heap.size + 1]? = some (.cells #[.string lo] 9) := by
    have := heap_alloc_new (w.alloc (.cells #[.pointer ao] 24)) (.cells #[.string lo] 9)
    rwa [World.size_alloc] at this
  exact ⟨((Below.refl _ w).alloc (Nat.le_refl _) _).alloc (by simp) _, by simp [World.size_alloc], by rw [cell_of_blk e1]; rfl, by rw [cell_of_blk e2]; rfl⟩
end Go.Proofs.Ytcdfbbjakkmmoaa
