import Derived.Test.YtdmhffbohnfdlaaGreatXOrd
import Derived.Test.YtdmhffbohnfdlaaGreatXDocM
import Derived.Test.YtdmhffbohnfdlaaGreatRClone
import Derived.Test.YtdmhffbohnfdlaaGreatRReach
import Derived.Test.YtdmhffbohnfdlaaGreatKOwn
import Derived.WalkKit
import Derived.WalkSpells
import Derived.Defers
import Derived.Laws.Pointers
import Derived.Laws.LoneSync
import Derived.RegionTactic
import Derived.RegionCalls
import Derived.Laws.Rows
import Derived.Conc.EventLaws
import Derived.KernelRfl
/- Layer 4 (walk): the entries of a tree, in order. -/
namespace Go.Proofs.YtdmhffbohnfdlaaGreat
open Go.RowKit
set_option linter.unusedVariables false

theorem ents_has {n : Nat} : ∀ {t : Tr} {e : En}, e ∈ ents n t → ∃ x, Has t (kyl e) x ∧ intOf x = e.2 := by
  induction n with
  | zero => intro t e he; cases he
  | succ n ih =>
    intro t e he
    rcases List.mem_append.1 he with h | h
    · unfold ownE at h
      split at h
      · rename_i v hv
        simp at h; subst h; exact ⟨v.x, .here hv, rfl⟩
      · cases h
    · obtain ⟨c, hc, h⟩ := List.mem_flatMap.1 h
      obtain ⟨x, hx, e2⟩ := ih h
      exact ⟨x, .kid hc hx, e2⟩
theorem has_ents {t : Tr} {k : List UInt8} {x : Value} (h : Has t k x) : ∀ {n : Nat}, Dep n t → ∃ e ∈ ents n t, kyl e = k ∧ e.2 = intOf x := by
  induction h with
  | @here t v hv =>
    intro n hd
    cases n with
    | zero => cases hd
    | succ n => exact ⟨(t.p, intOf v.x), List.mem_append_left _ (by unfold ownE; rw [hv]; exact List.mem_singleton.2 rfl), rfl, rfl⟩
  | @kid t c k x hc h ih =>
    intro n hd
    cases n with
    | zero => cases hd
    | succ n =>
      obtain ⟨e, he, h1, h2⟩ := ih (hd _ hc)
      exact ⟨e, List.mem_append_right _ (List.mem_flatMap.2 ⟨c, hc, he⟩), h1, h2⟩

/-- The tree holds just the entries es. -/
def HasE (T : Tr) (es : List En) : Prop := ∀ k x, Has T k x ↔ ∃ e ∈ es, kyl e = k ∧ x = .int .i64 e.2

structure Held (w W : World) (tb : Nat) (T : Tr) (ne : Int) (d : Nat) (es : List En) : Prop where
  good : Good w W tb T ne d
  has : HasE T es
  sorted : SortedE es
  cnt : ne = (es.length : Int)

theorem Held.keep {w W W' : World} {tb : Nat} {T : Tr} {ne : Int} {d : Nat} {es : List En} (h : Held w W tb T ne d es) (hb : Below W.heap.size W W') : Held w W' tb T ne d es := ⟨h.good.keep hb, h.has, h.sorted, h.cnt⟩

theorem ents_uniq {T : Tr} {n : Nat} {es : List En} (hd : Dep n T) (hw : WF T) (hh : HasE T es) (hs : SortedE es) : ents n T = es := by
  refine sorted_uniq (r := EnLt) (fun a => lt_irr _) (fun a b c => lt_tr) _ _ (ents_sorted hw) hs fun e => ?_
  constructor
  · intro he
    obtain ⟨x, hx, h1⟩ := ents_has he
    obtain ⟨e', he', h2, rfl⟩ := (hh _ _).1 hx
    have : e' = e := Prod.ext (ky_inj h2) (by rw [← h1]; rfl)
    rw [← this]; exact he'
  · intro he
    obtain ⟨e', he', h2, h3⟩ := has_ents ((hh (kyl e) _).2 ⟨e, he, rfl, rfl⟩) hd
    have : e' = e := Prod.ext (ky_inj h2) (by rw [h3]; rfl)
    rw [← this]; exact he'
theorem Held.ents {w W : World} {tb : Nat} {T : Tr} {ne : Int} {d : Nat} {es : List En} (h : Held w W tb T ne d es) : ents (d + 1) T = es := ents_uniq h.good.dep h.good.wf h.has h.sorted

theorem HasE.nil {a g : Nat} {p : ByteArray} : HasE (.nd a p none [] g) [] := fun k x => by
  rw [has_nd]
  constructor
  · rintro (⟨y, h, -⟩ | ⟨c, h, -⟩)
    · cases h
    · simp at h
  · rintro ⟨e, h, -⟩; simp at h

theorem HasE.insert {T T' : Tr} {es : List En} {N va vg : Nat} {k : ByteArray} {n : Int} (hh : HasE T es) (hs : SortedE es) (hw : WF T) (hp : T.path <+: k.data.toList) (hi : InsR N k ⟨va, .int .i64 n, vg⟩ T T') : HasE T' (insE es k n) := fun k' x => by
  rw [hi.has hw hp, hh]
  constructor
  · rintro (⟨rfl, rfl⟩ | ⟨h1, e, he, rfl, rfl⟩)
    · exact ⟨(k, n), (mem_insE hs).2 (.inl rfl), rfl, rfl⟩
    · exact ⟨e, (mem_insE hs).2 (.inr ⟨fun h2 => h1 (by rw [kyl, h2]), he⟩), rfl, rfl⟩
  · rintro ⟨e, he, rfl, rfl⟩
    rcases (mem_insE hs).1 he with rfl | ⟨h1, h2⟩
    · exact .inl ⟨rfl, rfl⟩
    · exact .inr ⟨fun h3 => h1 (ky_inj h3), e, h2, rfl, rfl⟩

theorem insE_count {es : List En} (hs : SortedE es) (k : ByteArray) (v : Int) : (insE es k v).length = es.length + (if k ∈ keysOf es then 0 else 1) := by
  have hl := keysOf_len es
  have hp := place_le (keysOf es) k
  unfold insE
  by_cases h : k ∈ keysOf es
  · obtain ⟨h1, -⟩ := (place_mem hs.keys).2 h
    rw [if_pos h, if_pos h]; simp; omega
  · rw [if_neg h, if_neg h]; simp; omega
theorem delE_count {es : List En} (hs : SortedE es) {k : ByteArray} (h : k ∈ keysOf es) : (delE es k).length + 1 = es.length := by
  have hl := keysOf_len es
  obtain ⟨h1, -⟩ := (place_mem hs.keys).2 h
  unfold delE
  rw [if_pos h]; simp; omega
theorem delE_none {es : List En} (hs : SortedE es) {k : ByteArray} (h : k ∉ keysOf es) : delE es k = es := by
  unfold delE
  rw [if_neg h, List.take_append_drop]
/-- What stands at the end of a key's way says whether the key is held. -/
theorem HasE.val {T : Tr} {es : List En} {k : ByteArray} {init : List Tr} {c : Tr} (hh : HasE T es) (hw : WF T) (hp : T.path <+: k.data.toList) (hA : Along k.data.toList T (init ++ [c])) : (valAt c k).isSome = decide (k ∈ keysOf es) := by
  rw [Bool.eq_iff_iff, decide_eq_true_eq, Option.isSome_iff_exists]
  constructor
  · rintro ⟨y, hy⟩
    obtain ⟨e, he, h1, -⟩ := (hh _ _).1 ((has_along hA rfl hw hp y.x).2 ⟨y, hy, rfl⟩)
    exact List.mem_map.2 ⟨e, he, ky_inj h1⟩
  · intro hm
    obtain ⟨e, he, h1⟩ := List.mem_map.1 hm
    obtain ⟨y, hy, -⟩ := (has_along hA rfl hw hp _).1 ((hh k.data.toList (.int .i64 e.2)).2 ⟨e, he, by rw [kyl, h1], rfl⟩)
    exact ⟨y, hy⟩
theorem Held.insert {w W W' : World} {tb tb' : Nat} {T T' : Tr} {ne n : Int} {d N va vg : Nat} {k : ByteArray} {o : Option Vl} {es : List En} (h : Held w W tb T ne d es) (hb : Below W.heap.size W W') (ht : TreeAt W' tb' T' (ne + plusNew o)) (hi : InsR N k ⟨va, .int .i64 n, vg⟩ T T') (ho : o.isSome = decide (k ∈ keysOf es)) : Held w W' tb' T' (ne + plusNew o) (d + 1) (insE es k n) := by
  refine ⟨h.good.insert hb ht hi, h.has.insert h.sorted h.good.wf (root_pre h.good.root _) hi, insE_sorted h.sorted _ _, ?_⟩
  have hc := h.cnt
  rw [insE_count h.sorted]
  unfold plusNew
  rw [ho]
  by_cases hk : k ∈ keysOf es
  · rw [decide_eq_true hk, if_pos hk]; simp; omega
  · rw [decide_eq_false hk, if_neg hk]; simp; omega
end Go.Proofs.YtdmhffbohnfdlaaGreat

/- Layer 3 (radix): Len, Get. -/
namespace Go.Proofs.YtdmhffbohnfdlaaGreat
open Go.RowKit
set_option linter.unusedVariables false

theorem len_calls (tb : Nat) (t : Tr) (n : Int) (w : World) (h : TreeAt w tb t n) : Calls Tryz.prog 28 #[.pointer (some ⟨tb, 0, none⟩)] w fun e w' => e = .returned (.int .i64 n) ∧ w' = w := by
  have c1 : w.cell? ⟨tb, 1, none⟩ = some (.int .i64 n) := by rw [cell_of_blk h.blk]; rfl
  clear h
  go_enter Tryz.func28, Tryz.ntmps28
  go_wp2
  go_ret
  exact ⟨rfl, rfl⟩

theorem get_tree (tb : Nat) (t : Tr) (n : Int) (k : ByteArray) (w : World) (init : List Tr) (c : Tr) (h : TreeAt w tb t n) (hw : WF t) (hp : t.path <+: k.data.toList) (hks : k.size ≤ 140737488351296) (hA : Along k.data.toList t (init ++ [c])) :
    Calls Tryz.prog 29 #[.pointer (some ⟨tb, 0, none⟩), .string k] w fun e w' => e = .returned (.tuple #[held (valAt c k), .bool (valAt c k).isSome]) ∧ Below w.heap.size w w' := by
  have c0 : w.cell? ⟨tb, 0, none⟩ = some (.pointer (some ⟨t.a, 0, none⟩)) := by rw [cell_of_blk h.blk]; rfl
  have HV := valueOf_calls t k w init c hA h.tat hw hp hks
  have hv : ∀ x, valAt c k = some x → VAt anyO w x := fun x hx => by
    unfold valAt at hx
    split at hx
    · cases hx
    · exact (along_tat hA h.tat c (by simp)).val' x hx
  have HVV : Hid (∀ x, valAt c k = some x → VAt anyO w x) := hv
  clear h hw hp hA hv
  go_enter Tryz.func29, Tryz.ntmps29
  go_wp2_with fail
  refine HV.mono ?_
  clear HV
  rintro e w1 ⟨rfl, hb1⟩
  have HG := get_calls (valAt c k) w1 (fun x hx => (HVV.out x hx).below hb1)
  have HB : Hid (Below w.heap.size w w1) := hb1
  clear hb1 c0
  go_wp2_with fail
  refine HG.mono ?_
  clear HG
  rintro e w2 ⟨rfl, rfl⟩
  go_wp2
  go_ret2
  exact ⟨rfl, HB.out⟩
end Go.Proofs.YtdmhffbohnfdlaaGreat

/- Layer 3 (radix): along, with whatever closure that has captured two variables. -/
namespace Go.Proofs.YtdmhffbohnfdlaaGreat
open Go.RowKit
set_option linter.unusedVariables false
variable {R : Rg} {O : Nat → Prop}

set_option maxRecDepth 100000 in
set_option maxHeartbeats 800000 in
theorem along2_calls (fid : Nat) (hcf : ∀ args W, (callFunc fid args).run Tryz.prog W = .ok (.enter fid args) W) (cv cv2 : Value) (t : Tr) (k : ByteArray) (l : List Tr) (I : Nat → World → Prop) (w : World) (hA : Along k.data.toList t l) (hw : WF t) (hp : t.path <+: k.data.toList) (hks : k.size ≤ 140737488351296)
    (h0 : I 0 w) (hI : ∀ i W W', I i W → Below W.heap.size W W' → I i W') (hT : ∀ i W, I i W → TAt R W t)
    (hstep : ∀ i (hi : i < l.length) W, I i W → TAt R W l[i] → Calls Tryz.prog fid #[.pointer (some ⟨l[i].a, 0, none⟩), cv, cv2] W fun e W' => e = .returned (.tuple #[]) ∧ I (i + 1) W') :
    Calls Tryz.prog 86 #[.pointer (some ⟨t.a, 0, none⟩), .string k, .func (.func fid) #[] #[cv, cv2]] w fun e w' => e = .returned (.tuple #[]) ∧ I l.length w' := by
  have hin := hA.inc hw
  have hpre := hA.pre hp
  have hwf := hA.wf hw
  have hst := hA.step
  have htat := fun W (h : TAt R W t) => along_tat hA h
  obtain ⟨r, hr⟩ := hA.head
  have hl0 : 0 < l.length := by rw [hr]; simp
  have hh0 : l[0] = t := by subst hr; rfl
  have H0 : Hid (I 0 w) := h0
  have HI : Hid (∀ i W W', I i W → Below W.heap.size W W' → I i W') := hI
  have HT : Hid (∀ i W, I i W → ∀ c ∈ l, TAt R W c) := fun i W h => htat W (hT i W h)
  have HST : Hid (∀ i (hi : i < l.length), nx l[i] k.data.toList = l[i + 1]?) := hst
  have HIN : Hid ((l.map (·.p.size)).Pairwise (· < ·)) := hin.1
  have HPRE : Hid (∀ c ∈ l, c.path <+: k.data.toList) := hpre
  have HWF : Hid (∀ c ∈ l, WF c) := hwf
  have HS : Hid (∀ i (hi : i < l.length) W, I i W → TAt R W l[i] → Calls Tryz.prog fid #[.pointer (some ⟨l[i].a, 0, none⟩), cv, cv2] W fun e W' => e = .returned (.tuple #[]) ∧ I (i + 1) W') := hstep
  have hh0' : t.a = l[0].a := by rw [hh0]
  rw [hh0']
  clear hin hpre hwf hst htat hr r hh0 hh0' h0 hI hT hA hw hp hstep
  clear t
  go_enter Tryz.func86, Tryz.ntmps86
  go_wp2
  go_loopw [0] (fun n wr => ∃ i : Nat, i ≤ l.length ∧ n = .pointer (nptr l[i]?) ∧ Hid (I i wr)) (fun n wr => leftOf k n wr)
  case atStart => exact ⟨0, Nat.zero_le _, by rw [List.getElem?_eq_getElem hl0]; rfl, H0⟩
  case round =>
    obtain ⟨i, hi, rfl, HJ⟩ := hrel
    by_cases hlt : i < l.length
    · rw [List.getElem?_eq_getElem hlt]
      simp only [nptr]
      have hmem := List.getElem_mem hlt
      have HC := HS.out i hlt wr HJ.out (HT.out i wr HJ.out _ hmem)
      have hle : l[i].p.size ≤ k.size := by have := (HPRE.out _ hmem).length_le; rw [path_length] at this; simpa using this
      have HM : Hid (leftOf k (.pointer (some ⟨l[i].a, 0, none⟩)) wr = k.size + 1 - l[i].p.size) := leftOf_at (HT.out i wr HJ.out _ hmem)
      go_wp2_with fail
      refine HC.mono ?_
      clear HC
      rintro e w1 ⟨rfl, hJ1⟩
      have HN := next_calls l[i] k w1 (HT.out _ w1 hJ1 _ hmem) (HWF.out _ hmem) (HPRE.out _ hmem) hks
      rw [HST.out i hlt] at HN
      have HJ1 : Hid (I (i + 1) w1) := hJ1
      clear hJ1 HJ
      go_wp2_with fail
      refine HN.mono ?_
      clear HN
      rintro e w2 ⟨rfl, hb2⟩
      have HJ2 : Hid (I (i + 1) w2) := HI.out _ _ _ HJ1.out hb2
      clear hb2 HJ1
      go_wp2
      go_roundw
      case rel => exact ⟨i + 1, by omega, rfl, HJ2⟩
      case measure =>
        rw [HM.out]
        by_cases h1 : i + 1 < l.length
        · have hlt2 := List.pairwise_iff_getElem.1 HIN.out i (i + 1) (by simpa using hlt) (by simpa using h1) (by omega)
          simp only [List.getElem_map] at hlt2
          rw [List.getElem?_eq_getElem h1]
          simp only [nptr]
          rw [leftOf_at (HT.out _ w2 HJ2.out _ (List.getElem_mem h1))]
          omega
        · rw [List.getElem?_eq_none (by omega)]
          simp only [nptr, leftOf]
          omega
    · have hil : i = l.length := by omega
      subst hil
      rw [List.getElem?_eq_none (Nat.le_refl _)]
      simp only [nptr]
      go_wp2
      go_end0
      exact ⟨rfl, HJ.out⟩
end Go.Proofs.YtdmhffbohnfdlaaGreat

/- Layer 2 (watch): the road through sync.Once in one goroutine, and the closure that Fire hands to it. -/
namespace Go.Proofs.YtdmhffbohnfdlaaGreat
open Go.RowKit
set_option linter.unusedVariables false

theorem raceDisable (w : World) : (callFunc 99 #[]).run Tryz.prog w = .ok (.value (.tuple #[])) w := run_call_mark0 Tryz.func99 (by kernel_rfl) (by kernel_rfl) (by kernel_rfl) .disable (by kernel_rfl) w
theorem raceEnable (w : World) : (callFunc 101 #[]).run Tryz.prog w = .ok (.value (.tuple #[])) w := run_call_mark0 Tryz.func101 (by kernel_rfl) (by kernel_rfl) (by kernel_rfl) .enable (by kernel_rfl) w
theorem raceAcquire (a : Addr) (w : World) : (callFunc 102 #[.pointer (some a)]).run Tryz.prog w = .ok (.value (.tuple #[])) w := run_call_marked Tryz.func102 (by kernel_rfl) (by kernel_rfl) (by kernel_rfl) .acquire (by kernel_rfl) a w
theorem raceReleaseMerge (a : Addr) (w : World) : (callFunc 104 #[.pointer (some a)]).run Tryz.prog w = .ok (.value (.tuple #[])) w := run_call_marked Tryz.func104 (by kernel_rfl) (by kernel_rfl) (by kernel_rfl) .releaseMerge (by kernel_rfl) a w

/-- The atomic Bool is set, as a deferred call. -/
theorem store_deferred (a : Addr) (x : Value) (u : FrameMode) (w : World) (hc : w.cell? a = some x) (hz : w.frozen? a = false) :
    CallsD Tryz.prog 168 #[.pointer (some a), .bool true] u w fun e u' w' => u' = u ∧ (e = .returned (.tuple #[]) ∧ w' = w.drew.setCell a (.int .u32 1)) := by
  have hc' : w.drew.cell? a = some x := by go_simp
  have hz' : w.drew.frozen? a = false := by go_simp
  have hst := run_call_store (P := Tryz.prog) Tryz.func169 (by kernel_rfl) (by kernel_rfl) (by kernel_rfl) (by kernel_rfl) (k := .u32) (y := 1) hc' hz'
  go_enter_d Tryz.func168, Tryz.ntmps168
  go_wp2
  go_region_calls
  all_goals (go_end0; exact ⟨rfl, rfl⟩)

set_option maxRecDepth 100000 in
theorem unlock_deferred (a : Addr) (u : FrameMode) (w : World) (hc : w.cell? a = some (.int .i32 1)) (hz : w.frozen? a = false) :
    CallsD Tryz.prog 37 #[.pointer (some a)] u w fun e u' w' => u' = u ∧ (e = .returned (.tuple #[]) ∧ w' = w.setCell a (.int .i32 0)) := by
  have hd := raceDisable
  have he := raceEnable
  have hr := raceReleaseMerge
  have hadd := run_call_add (P := Tryz.prog) Tryz.func105 (by kernel_rfl) (by kernel_rfl) (by kernel_rfl) .i32 (by kernel_rfl) (y := -1) (s := 0) hc hz (by simp [go_sem]; rfl)
  have hcv := run_convert_to_unsafe (P := Tryz.prog) (src := 187) (dst := 87) Tryz.underlying187 Tryz.underlying87 (by kernel_rfl) hc
  go_enter_d Tryz.func37, Tryz.ntmps37
  go_wp2
  go_end0
  go_wp2
  go_end0
  exact ⟨rfl, rfl⟩

set_option maxRecDepth 100000 in
theorem lock_free (a : Addr) (w : World) (hc : w.cell? a = some (.int .i32 0)) (hz : w.frozen? a = false) :
    Calls Tryz.prog 36 #[.pointer (some a)] w fun e w' => e = .returned (.tuple #[]) ∧ w' = w.setCell a (.int .i32 1) := by
  have hd := raceDisable
  have he := raceEnable
  have ha := raceAcquire
  have hcas := run_call_cas_hit (P := Tryz.prog) Tryz.func100 (by kernel_rfl) (by kernel_rfl) (by kernel_rfl) .i32 (by kernel_rfl) (y := 1) hc hz
  have hc' : (w.setCell a (.int .i32 1)).cell? a = some (.int .i32 1) := World.cell?_setCell_same w a _ hc
  have hcv := run_convert_to_unsafe (P := Tryz.prog) (src := 187) (dst := 87) Tryz.underlying187 Tryz.underlying87 (by kernel_rfl) hc'
  go_enter Tryz.func36, Tryz.ntmps36
  go_wp2
  first | go_end0 | (simp only [Exit.inBlock, Exit.then]; refine bodyPost_ret (results_none rfl _ _ _) rfl ?_) | refine bodyPost_ret (results_none rfl _ _ _) rfl ?_
  go_wp2
  go_end0
  exact ⟨rfl, rfl⟩


/-- The closure that Fire hands to the Once: it closes the channel and says so. -/
theorem closure_calls (b c : Nat) (p1 p3 : Addr) (x : Value) (w : World) (h1 : w.cell? p1 = some (.pointer (some ⟨b, 0, none⟩))) (h0 : w.cell? ⟨b, 0, none⟩ = some (.chan (some c)))
    (hc : w.heap[c]? = some (.chan 0 #[] false 0 0 false)) (h3 : w.cell? p3 = some x) (z3 : w.frozen? p3 = false) (hne : p3.block ≠ c) :
    Calls Tryz.prog 162 #[.pointer (some p1), .pointer (some p3)] w fun e w' => e = .returned (.tuple #[]) ∧ w' = (shut w c).setCell p3 (.bool true) := by
  have hcl := fun ats ty => run_close_open (P := Tryz.prog) (w := w) ats ty hc
  have hcl' : ∀ ats ty, (Builtin.close_ ats ty #[.chan (some c)]).run Tryz.prog w = .ok (.tuple #[]) (shut w c) := hcl
  clear hcl
  have h3' : (shut w c).cell? p3 = some x := (shut_cell w c p3 hne).trans h3
  have z3' : (shut w c).frozen? p3 = false := (shut_frozen w c p3 hne).trans z3
  go_enter Tryz.func162, Tryz.ntmps162
  go_wp2
  go_end0
  exact ⟨rfl, rfl⟩
end Go.Proofs.YtdmhffbohnfdlaaGreat
