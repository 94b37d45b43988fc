/- Layer 4 (walk): bound, give. -/
import Derived.Test.YtnmndjplbcpglaaRKidsN
import Derived.Test.YtnmndjplbcpglaaXHeld
import Derived.Test.YtnmndjplbcpglaaXFind
import Derived.Test.YtnmndjplbcpglaaXLaw
namespace Go.Proofs.Ytnmndjplbcpglaa
open Go.RowKit Go.Shelf
set_option linter.unusedVariables false
attribute [local go_sem] Oper.semAt_some

/-! ### bound -/
def cutB (lo p : ByteArray) : ByteArray := if begB lo.data.toList p.data.toList then lo.extract p.size lo.size else lo

set_option maxHeartbeats 400000 in
theorem cutL_calls (s p : ByteArray) (w : World) (hs : s.size ≤ 140737488355328) (hp : p.size ≤ 140737488355328) :
    Calls Try.prog 82 #[.string s, .string p] w fun e w' => e = .returned (.tuple #[.string (cutB s p), .bool (begB s.data.toList p.data.toList)]) ∧ w' = w := by
  have HH := hasPrefixL_calls s p w (by omega) (by omega)
  by_cases hb : begB s.data.toList p.data.toList = true
  · have hc : cutB s p = s.extract p.size s.size := if_pos hb
    have hle : p.size ≤ s.size := by
      have := (List.isPrefixOf_iff_prefix.1 hb).length_le
      simpa using this
    rw [hb] at HH
    rw [hc, hb]
    clear hb hc
    go_enter Try.func82, Try.ntmps82
    go_wp2_with fail
    refine HH.mono ?_
    clear HH
    rintro e w1 ⟨rfl, rfl⟩
    go_wp2
    go_ret2
    exact ⟨rfl, rfl⟩
  · have hb' := Bool.eq_false_iff.2 hb
    have hc : cutB s p = s := if_neg hb
    rw [hb'] at HH
    rw [hc, hb']
    clear hb hc hb'
    go_enter Try.func82, Try.ntmps82
    go_wp2_with fail
    refine HH.mono ?_
    clear HH
    rintro e w1 ⟨rfl, rfl⟩
    go_wp2
    go_ret2
    exact ⟨rfl, rfl⟩
theorem cut_calls (s p : ByteArray) (w : World) (hs : s.size ≤ 140737488355328) (hp : p.size ≤ 140737488355328) :
    Calls Try.prog 80 #[.string s, .string p] w fun e w' => e = .returned (.tuple #[.string (cutB s p), .bool (begB s.data.toList p.data.toList)]) ∧ w' = w := by
  have HH := cutL_calls s p w hs hp
  go_enter Try.func80, Try.ntmps80
  go_wp2_with fail
  refine HH.mono ?_
  clear HH
  rintro e w1 ⟨rfl, rfl⟩
  go_wp2
  go_ret2
  exact ⟨rfl, rfl⟩

def bndL (pc lo : ByteArray) : ByteArray := if Lt (kyb pc) (kyb lo) then cutB lo pc else ⟨#[]⟩
def bndB (pc lo : ByteArray) : Bool := if Lt (kyb pc) (kyb lo) then begB lo.data.toList pc.data.toList else true

theorem bound_calls (pc lo : ByteArray) (w : World) (hs : pc.size ≤ 140737488355328) (hp : lo.size ≤ 140737488355328) :
    Calls Try.prog 65 #[.string pc, .string lo] w fun e w' => e = .returned (.tuple #[.string (bndL pc lo), .bool (bndB pc lo)]) ∧ w' = w := by
  have HH := cut_calls lo pc w hp hs
  have hlt := less_lt pc lo
  unfold bndL bndB
  by_cases h : Lt (kyb pc) (kyb lo)
  · rw [if_pos h, if_pos h]
    rw [decide_eq_true (show Lt pc.data.toList lo.data.toList from h)] at hlt
    go_enter Try.func65, Try.ntmps65
    go_wp2_with fail
    refine HH.mono ?_
    clear HH
    rintro e w1 ⟨rfl, rfl⟩
    go_wp2
    go_ret2
    exact ⟨rfl, rfl⟩
  · rw [if_neg h, if_neg h]
    rw [decide_eq_false (show ¬ Lt pc.data.toList lo.data.toList from h)] at hlt
    go_enter Try.func65, Try.ntmps65
    go_wp2_with fail
    go_ret2
    exact ⟨rfl, rfl⟩

/-! ### rounds -/
theorem wide_room (k : Nat) : Fence.wide.room k := fun d h => by cases h
theorem RoundIn.anyW {m m' : Nat} {P : Program} {l : Nat} {f : FuncId} {tmps : Array Value} {assign body : Code} {w : World} {R : Ending → World → Prop}
    (h : RoundIn Fence.wide m P l f tmps assign body w R) : RoundIn Fence.wide m' P l f tmps assign body w R := ⟨h.1, fun c cs _ => h.2 c cs (wide_room _)⟩
theorem YieldAt.anyW {m : Nat} (m' : Nat) {P : Program} {l : Nat} {args : Array Value} {W : World} {R : Ending → World → Prop} (h : YieldAt Fence.wide m P l args W R) : YieldAt Fence.wide m' P l args W R := by
  obtain ⟨fn, tmps, assign, body, hy, hR⟩ := h
  exact ⟨fn, tmps, assign, body, hy, RoundIn.anyW hR⟩

/-- The block's kind is one that a walk over a tree reads. -/
def KTy (ty : TypeId) : Prop := ty = 63 ∨ ty = 9 ∨ ty = 24 ∨ ty = 59 ∨ ty = 4 ∨ ty = 96
/-- What a round must leave as it was: what lay ahead, and what the walk itself has made. -/
structure Kp (n₀ : Nat) (X : Nat → Prop) (W W' : World) : Prop where
  below : Below n₀ W W'
  kept : ∀ b cs ty, W.heap[b]? = some (.cells cs ty) → KTy ty → ¬ X b → W'.heap[b]? = W.heap[b]?
theorem Kp.trans {n₀ : Nat} {X : Nat → Prop} {A B C : World} (h : Kp n₀ X A B) (k : Kp n₀ X B C) : Kp n₀ X A C :=
  ⟨h.below.trans k.below, fun b cs ty hb ht hx => by
    have h1 := h.kept b cs ty hb ht hx
    rw [k.kept b cs ty (h1.trans hb) ht hx, h1]⟩
theorem Kp.ofBelow {n₀ : Nat} {X : Nat → Prop} {A B : World} (h : Below A.heap.size A B) (hn : n₀ ≤ A.heap.size) : Kp n₀ X A B :=
  ⟨h.mono hn, fun b cs ty hb _ _ => h.block b (lt_of_heap hb)⟩

/-- The entries that are given. -/
abbrev El (es : List En) := { e : En // e ∈ es }
def encE (es : List En) (x : El es) : Array Value := #[.string x.1.1, .int .i64 x.1.2]
def YOk (l n₀ : Nat) (X : Nat → Prop) (es : List En) (J Jx : List (El es) → World → Prop) : Prop :=
  ∀ m pre x W, J pre W → (pre ++ [x]).map (·.1) <+: es → YieldAt Fence.wide m Try.prog l (encE es x) W (Rnd (Kp n₀ X) l J Jx pre x W)
def Abs {β : Type} (J : β → World → Prop) : Prop := ∀ s A B, J s A → Below A.heap.size A B → J s B

set_option maxRecDepth 100000 in
set_option maxHeartbeats 2000000 in
theorem give_calls (l n₀ : Nat) (X : Nat → Prop) (es : List En) (J Jx : List (El es) → World → Prop) (hJ : Abs J) (hY : YOk l n₀ X es J Jx) (t : Tr) (pre : List (El es)) (W : World) (hn : n₀ ≤ W.heap.size) (ht : TAt nR W t) (hj : J pre W) (hp : pre.map (·.1) ++ ownE t <+: es) :
    Calls Try.prog 47 #[nodeV t, .func (.yield l) #[] #[]] W fun e W' =>
      (e = .returned (.bool true) ∧ ∃ ys : List (El es), ys.map (·.1) = ownE t ∧ J (pre ++ ys) W' ∧ Kp n₀ X W W') ∨ (e = .returned (.bool false) ∧ ∃ ys : List (El es), ys.map (·.1) <+: ownE t ∧ Jx (pre ++ ys) W') := by
  obtain ⟨w1, HW1⟩ : ∃ w1, Hid (w1 = W.alloc (.cells #[.pointer (some ⟨t.a, 0, none⟩)] 63)) := ⟨_, rfl⟩
  have hb1 : Below W.heap.size W w1 := by rw [HW1.out]; exact (Below.refl _ _).alloc (Nat.le_refl _) _
  have q1 : w1.heap[W.heap.size]? = some (.cells #[.pointer (some ⟨t.a, 0, none⟩)] 63) := by rw [HW1.out]; exact heap_alloc_new _ _
  have HV := value_calls t w1 (ht.keep hb1)
  have HB1 : Hid (Below W.heap.size W w1) := hb1
  unfold nodeV
  unfold nodeV at HV
  have HT : Hid (TAt nR W t) := ht
  have HJ : Hid (J pre W) := hj
  have hlt1 := lt_of_heap q1
  cases hv : t.v with
  | none =>
    rw [hv] at HV
    have ho : ownE t = [] := by unfold ownE; rw [hv]
    rw [ho]
    simp only [held, Option.isSome_none] at HV
    clear q1 ht hb1 hj
    refine (callsIn_wide (n := 8)).1 ?_
    refine callsIn_of_wp Try.func47 rfl trivial ?_ rfl
    simp only [Try.ntmps47, List.size_toArray, List.length_cons, List.length_nil, Nat.reduceAdd, Nat.reduceSub, Array.replicate_succ, Array.replicate_zero, List.push_toArray, List.append_toArray, List.nil_append, List.cons_append]
    gi_wp2_with fail
    refine ⟨trivial, ?_⟩
    rw [← HW1.out]
    refine (callsIn_wide.2 HV).mono ?_
    clear HV HW1
    rintro e w2 ⟨rfl, hb2⟩
    have HB2 : Hid (Below W.heap.size W w2) := HB1.out.trans (hb2.mono HB1.out.size)
    clear hb2
    gi_wp2_with fail
    refine ⟨trivial, ?_⟩
    gi_wp2_with fail
    refine ⟨fun _ h => (by cases h), ?_⟩
    gi_wp2
    go_ret
    exact .inl ⟨rfl, [], rfl, by rw [List.append_nil]; exact hJ _ _ _ HJ.out HB2.out, Kp.ofBelow HB2.out hn⟩
  | some v =>
    rw [hv] at HV
    obtain ⟨n, hn1⟩ := (ht.val' v hv).num
    have ho : ownE t = [(t.p, n)] := by unfold ownE; rw [hv]; simp [hn1, intOf]
    rw [ho] at hp ⊢
    have hx : (t.p, n) ∈ es := hp.subset (by simp)
    simp only [held, Option.isSome_some, hn1] at HV
    clear ht hb1 hj
    refine (callsIn_wide (n := 8)).1 ?_
    refine callsIn_of_wp Try.func47 rfl trivial ?_ rfl
    simp only [Try.ntmps47, List.size_toArray, List.length_cons, List.length_nil, Nat.reduceAdd, Nat.reduceSub, Array.replicate_succ, Array.replicate_zero, List.push_toArray, List.append_toArray, List.nil_append, List.cons_append]
    gi_wp2_with fail
    refine ⟨trivial, ?_⟩
    rw [← HW1.out]
    refine (callsIn_wide.2 HV).mono ?_
    clear HV HW1
    rintro e w2 ⟨rfl, hb2⟩
    have HB2 : Hid (Below W.heap.size W w2) := HB1.out.trans (hb2.mono HB1.out.size)
    have q2 : w2.cell? ⟨W.heap.size, 0, none⟩ = some (.pointer (some ⟨t.a, 0, none⟩)) := by rw [hb2.cell (by exact hlt1), cell_of_blk q1]; rfl
    have HP := path_calls (R := nR) t w2 (HT.out.keep HB2.out)
    unfold nodeV at HP
    clear hb2 q1
    gi_wp2_with fail
    refine ⟨trivial, ?_⟩
    refine (callsIn_wide.2 HP).mono ?_
    clear HP
    rintro e w3 ⟨rfl, hb3⟩
    have HB3 : Hid (Below W.heap.size W w3) := HB2.out.trans (hb3.mono HB2.out.size)
    obtain ⟨fn, tmps, assign, body, hy, hR⟩ := hY 7 pre ⟨(t.p, n), hx⟩ w3 (hJ _ _ _ HJ.out HB3.out) (by rw [List.map_append]; exact hp)
    dsimp only [encE] at hy
    clear hb3 q2
    gi_wp2_with fail
    refine hR.mono ?_
    clear hR hy
    rintro e w4 (⟨rfl, hJ4, hk4, -⟩ | ⟨rfl, hJx4, -⟩)
    · have HR : Hid (J (pre ++ [⟨(t.p, n), hx⟩]) w4 ∧ Kp n₀ X W w4) := ⟨hJ4, (Kp.ofBelow HB3.out hn).trans hk4⟩
      clear hJ4 hk4
      gi_wp2
      go_ret
      exact .inl ⟨rfl, [⟨(t.p, n), hx⟩], rfl, HR.out.1, HR.out.2⟩
    · have HR : Hid (Jx (pre ++ [⟨(t.p, n), hx⟩]) w4) := hJx4
      clear hJx4
      gi_wp2
      go_ret
      exact .inr ⟨rfl, [⟨(t.p, n), hx⟩], List.prefix_refl _, HR.out⟩
end Go.Proofs.Ytnmndjplbcpglaa
