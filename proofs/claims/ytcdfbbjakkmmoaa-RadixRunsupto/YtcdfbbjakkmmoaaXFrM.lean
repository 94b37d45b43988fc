/- Layer 3 (radix): which nodes a step makes anew. -/
import Derived.Test.YtcdfbbjakkmmoaaXNds
import Derived.Test.YtcdfbbjakkmmoaaRDelete
import Derived.Test.YtcdfbbjakkmmoaaRHasI
import Derived.Test.YtcdfbbjakkmmoaaRGet
import Derived.Test.YtcdfbbjakkmmoaaXKidsM
namespace Go.Proofs.Ytcdfbbjakkmmoaa
open Go.RowKit
set_option linter.unusedVariables false

/-- A node of the tree. -/
inductive Nd (T : Tr) : Tr → Prop
  | top : Nd T T
  | kid {t c : Tr} (h : Nd T t) (hc : c ∈ t.ks) : Nd T c
theorem Nd.wf {T x : Tr} (h : Nd T x) (hw : WF T) : WF x := by
  induction h with
  | top => exact hw
  | kid h hc ih => exact ih.kids' _ hc
theorem nx_self {t : Tr} (hw : WF t) : nx t t.path = none := by
  unfold nx
  rw [List.find?_eq_none]
  intro c hc h
  have h1 := (List.isPrefixOf_iff_prefix.1 h).length_le
  rw [path_length, path_length] at h1
  have := (hw.ext' _ hc).2
  omega
theorem nx_kid {t c : Tr} (hw : WF t) (hc : c ∈ t.ks) {q : List UInt8} (hp : c.path <+: q) : nx t q = some c := by
  obtain ⟨i, hi, rfl⟩ := List.getElem_of_mem hc
  exact nx_some hw hi hp
theorem Along.more {p q : List UInt8} {t : Tr} {l : List Tr} (h : Along p t l) (hpq : p <+: q) : ∀ (init : List Tr) (c : Tr), WF t → l = init ++ [c] → ∀ r, Along q c r → Along q t (init ++ r) := by
  induction h with
  | @stop t h =>
    intro init c hw he r hr
    cases init with
    | nil => simp at he; subst he; exact hr
    | cons x init => simp at he
  | @go t c1 l h r ih =>
    intro init c hw he r2 hr
    cases init with
    | nil => simp at he; exact absurd he.2 r.ne
    | cons x init =>
      simp only [List.cons_append, List.cons.injEq] at he
      obtain ⟨rfl, he⟩ := he
      obtain ⟨hm, hpm⟩ := nx_mem h
      exact .go (nx_kid hw hm (hpm.trans hpq)) (ih init c (hw.kids' _ hm) he r2 hr)
theorem Along.suffix {k : List UInt8} {t : Tr} {l : List Tr} (h : Along k t l) : ∀ (pre : List Tr) (r : Tr) (post : List Tr), l = pre ++ r :: post → Along k r (r :: post) := by
  induction h with
  | @stop t h =>
    intro pre r post he
    cases pre with
    | nil => simp at he; obtain ⟨rfl, rfl⟩ := he; exact .stop h
    | cons x pre => simp at he
  | @go t c1 l h r ih =>
    intro pre r2 post he
    cases pre with
    | nil => simp at he; obtain ⟨rfl, rfl⟩ := he; exact .go h r
    | cons x pre =>
      simp only [List.cons_append, List.cons.injEq] at he
      exact ih pre r2 post he.2
theorem Nd.along {T x : Tr} (h : Nd T x) (hw : WF T) : ∃ init, Along x.path T (init ++ [x]) := by
  induction h with
  | top => exact ⟨[], .stop (nx_self hw)⟩
  | @kid t c h hc ih =>
    obtain ⟨init, ih⟩ := ih
    have hwt := h.wf hw
    have hr : Along c.path t [t, c] := .go (nx_kid hwt hc (List.prefix_refl _)) (.stop (nx_self (hwt.kids' _ hc)))
    exact ⟨init ++ [t], by
      have := ih.more (hwt.ext' _ hc).1 init t hw rfl _ hr
      simpa using this⟩
theorem Nd.last {T x c : Tr} {init : List Tr} (h : Nd T x) (hw : WF T) (hA : Along x.path T (init ++ [c])) : c = x := by
  obtain ⟨i2, h2⟩ := h.along hw
  have h3 := congrArg List.getLast? (hA.uniq h2)
  simpa using h3
theorem along_nd {k : List UInt8} {t : Tr} {l : List Tr} (h : Along k t l) : ∀ {T : Tr}, Nd T t → ∀ c ∈ l, Nd T c := by
  induction h with
  | @stop t h => intro T hn c hc; simp at hc; subst hc; exact hn
  | @go t c1 l h r ih =>
    intro T hn c hc
    rcases List.mem_cons.1 hc with rfl | hc
    · exact hn
    · exact ih (hn.kid (nx_mem h).1) c hc

/-- All nodes lie ahead of N. -/
def AllLt (N : Nat) (T : Tr) : Prop := ∀ x, Nd T x → x.a < N
theorem TAt.nd {R : Rg} {w : World} {T : Tr} (h : TAt R w T) {x : Tr} (hx : Nd T x) : TAt R w x := by
  induction hx with
  | top => exact h
  | kid _ hc ih => exact ih.sub' _ hc
theorem TAt.allLt {R : Rg} {w : World} {T : Tr} {N : Nat} (h : TAt R w T) (hN : w.heap.size ≤ N) : AllLt N T := fun x hx => by have := (h.nd hx).lt; omega

/-- Old nodes are the old tree's and lie off k's way; new ones lie on it. -/
def Mx (N : Nat) (k : List UInt8) (T0 : Tr) : Nat → Tr → Prop
  | 0, _ => True
  | n + 1, T => (T.a < N → Nd T0 T ∧ ¬ T.path <+: k) ∧ (N ≤ T.a → T.path <+: k ∧ ∀ c ∈ T.ks, Mx N k T0 n c)
theorem Mx.old {N : Nat} {k : List UInt8} {T0 x : Tr} (hx : Nd T0 x) (hl : AllLt N T0) (hn : ¬ x.path <+: k) : ∀ n, Mx N k T0 n x
  | 0 => trivial
  | n + 1 => ⟨fun _ => ⟨hx, hn⟩, fun h => absurd (hl x hx) (by omega)⟩
theorem Mx.new {N : Nat} {k : List UInt8} {T0 : Tr} {a g : Nat} {p : ByteArray} {v : Option Vl} {ks : List Tr} (ha : N ≤ a) (hp : p.data.toList <+: k) (hk : ∀ c ∈ ks, ∀ n, Mx N k T0 n c) : ∀ n, Mx N k T0 n (.nd a p v ks g)
  | 0 => trivial
  | n + 1 => ⟨fun h => absurd h (by show ¬ a < N; omega), fun _ => ⟨hp, fun c hc => hk c hc n⟩⟩
theorem Mx.leaf {N : Nat} {k : ByteArray} {T0 : Tr} {a g : Nat} {v : Option Vl} (ha : N ≤ a) (n : Nat) : Mx N k.data.toList T0 n (.nd a k v [] g) := Mx.new ha (List.prefix_refl _) (fun c hc => by cases hc) n
theorem extract_pre (k : ByteArray) (m : Nat) : (k.extract 0 m).data.toList <+: k.data.toList := by
  simp only [ByteArray.data_extract, Array.toList_extract, List.extract_eq_take_drop]
  simp only [List.drop_zero, Nat.sub_zero]
  exact List.take_prefix _ _
theorem JoinR.mx {N : Nat} {k : ByteArray} {v : Vl} {n T T0 : Tr} (h : JoinR N k v n T) (hd : Nd T0 n) (hl : AllLt N T0) (hn : ¬ n.path <+: k.data.toList) : ∀ m, Mx N k.data.toList T0 m T := by
  cases h with
  | above ha hg hp hl' => exact Mx.new ha (List.prefix_refl _) (fun c hc => by simp at hc; subst hc; exact Mx.old hd hl hn)
  | @less m a g l gl ha hg hl' hgl h1 h2 he hlt =>
    exact Mx.new ha (extract_pre k m) (fun c hc => by
      simp at hc
      rcases hc with rfl | rfl
      · exact Mx.leaf hl'
      · exact Mx.old hd hl hn)
  | @more m a g l gl ha hg hl' hgl h1 h2 he hlt =>
    exact Mx.new ha (extract_pre k m) (fun c hc => by
      simp at hc
      rcases hc with rfl | rfl
      · exact Mx.old hd hl hn
      · exact Mx.leaf hl')
theorem no_nx {t : Tr} {k : List UInt8} (h : nx t k = none) : ∀ c ∈ t.ks, ¬ c.path <+: k := fun c hc hp => by
  unfold nx at h
  rw [List.find?_eq_none] at h
  exact h c hc (List.isPrefixOf_iff_prefix.2 hp)
theorem EntR.mx {N : Nat} {k : ByteArray} {v : Vl} {t T T0 : Tr} (h : EntR N k v t T) (hw : WF t) (hp : t.path <+: k.data.toList) (hnx : nx t k.data.toList = none) (hd : Nd T0 t) (hl : AllLt N T0) : ∀ m, Mx N k.data.toList T0 m T := by
  have hno := no_nx hnx
  cases h with
  | here ha hg hs => exact Mx.new ha hp (fun c hc => Mx.old (hd.kid hc) hl (hno c hc))
  | leaf ha hg hl' hgl hs hb =>
    exact Mx.new ha hp (fun c hc => by
      simp only [List.mem_append, List.mem_singleton] at hc
      rcases hc with (hc | rfl) | hc
      · exact Mx.old (hd.kid (List.mem_of_mem_take hc)) hl (hno c (List.mem_of_mem_take hc))
      · exact Mx.leaf hl'
      · exact Mx.old (hd.kid (List.mem_of_mem_drop hc)) hl (hno c (List.mem_of_mem_drop hc)))
  | @join a g c J ha hg hs hq hc hb hn hJ =>
    have hcm : c ∈ t.ks := by rw [← hc]; exact List.getElem_mem hq
    exact Mx.new ha hp (fun d hd' => by
      simp only [List.mem_append, List.mem_singleton] at hd'
      rcases hd' with (hd' | rfl) | hd'
      · exact Mx.old (hd.kid (List.mem_of_mem_take hd')) hl (hno d (List.mem_of_mem_take hd'))
      · exact hJ.mx (hd.kid hcm) hl hn
      · exact Mx.old (hd.kid (List.mem_of_mem_drop hd')) hl (hno d (List.mem_of_mem_drop hd')))
/-- The other kids lie off the way. -/
theorem off_kids {t c : Tr} {k : ByteArray} (hw : WF t) (hs : t.p.size < k.size) (hn : nx t k.data.toList = some c) : ∀ d, d ∈ t.ks.take (posn t.ks t.p.size k[t.p.size]) ++ t.ks.drop (posn t.ks t.p.size k[t.p.size] + 1) → d ∈ t.ks ∧ ¬ d.path <+: k.data.toList := by
  obtain ⟨hc, hcp⟩ := nx_mem hn
  obtain ⟨hq, hbq⟩ := there_true hs (nx_there hw hs hn)
  intro d hd
  obtain ⟨h1, h2⟩ := other_kids hw hq hd
  refine ⟨h1, fun hp => h2 ?_⟩
  rw [hbq]
  unfold Tr.byte
  exact key_pre hp (by rw [path_length]; exact (hw.ext' d h1).2) hs
theorem InsR.mx {N : Nat} {k : ByteArray} {v : Vl} {t T T0 : Tr} (h : InsR N k v t T) (hw : WF t) (hp : t.path <+: k.data.toList) (hd : Nd T0 t) (hl : AllLt N T0) : ∀ m, Mx N k.data.toList T0 m T := by
  induction h with
  | entry hn h => exact h.mx hw hp hn hd hl
  | @down t c c' a g hn hs h ha hg ih =>
    obtain ⟨hc, hcp⟩ := nx_mem hn
    have hoff := off_kids hw hs hn
    have ih' := ih (hw.kids' c hc) hcp (hd.kid hc)
    exact Mx.new ha hp (fun d hd' => by
      simp only [List.mem_append, List.mem_singleton] at hd'
      rcases hd' with (hd' | rfl) | hd'
      · have h1 := hoff d (List.mem_append_left _ hd'); exact Mx.old (hd.kid h1.1) hl h1.2
      · exact ih'
      · have h1 := hoff d (List.mem_append_right _ hd'); exact Mx.old (hd.kid h1.1) hl h1.2)
theorem DelR.newA {N : Nat} {k : ByteArray} {t T : Tr} (h : DelR N k t T) : N ≤ T.a := by cases h <;> assumption
theorem DelR.mx {N : Nat} {k : ByteArray} {t T T0 : Tr} (h : DelR N k t T) (hw : WF t) (hp : t.path <+: k.data.toList) (hd : Nd T0 t) (hl : AllLt N T0) : ∀ m, Mx N k.data.toList T0 m T := by
  induction h with
  | @here t a g hs ha hg =>
    exact Mx.new ha hp (fun c hc => Mx.old (hd.kid hc) hl (fun h1 => by
      have h2 := h1.length_le
      rw [path_length, key_len] at h2
      have := (hw.ext' c hc).2
      omega))
  | @down t c c' a g hn hs h ha hg ih =>
    obtain ⟨hc, hcp⟩ := nx_mem hn
    have hoff := off_kids hw hs hn
    have ih' := ih (hw.kids' c hc) hcp (hd.kid hc)
    exact Mx.new ha hp (fun d hd' => by
      simp only [List.mem_append] at hd'
      rcases hd' with (hd' | hd') | hd'
      · have h1 := hoff d (List.mem_append_left _ hd'); exact Mx.old (hd.kid h1.1) hl h1.2
      · intro m
        unfold neededOf at hd'
        split at hd'
        · simp at hd'; subst hd'; exact ih' m
        · exact ((ih' (m + 1)).2 h.newA).2 d hd'
      · have h1 := hoff d (List.mem_append_right _ hd'); exact Mx.old (hd.kid h1.1) hl h1.2)

/-- How many nodes are none of the old ones. -/
def fr (o : Nat → Bool) : Nat → Tr → Nat
  | 0, _ => 0
  | n + 1, t => if o t.a then 0 else 1 + (t.ks.map (fr o n)).sum
theorem fr_le (o : Nat → Bool) : ∀ (n : Nat) (t : Tr), fr o n t ≤ (pths n t).length
  | 0, _ => Nat.le_refl _
  | n + 1, t => by
    unfold fr pths
    split
    · exact Nat.zero_le _
    · rw [List.length_cons, List.length_flatMap]
      have : (t.ks.map (fr o n)).sum ≤ (t.ks.map fun c => (pths n c).length).sum := by
        generalize t.ks = l
        induction l with
        | nil => exact Nat.le_refl _
        | cons c l ih => simp only [List.map_cons, List.sum_cons]; have := fr_le o n c; omega
      omega
/-- Where each is looked for. -/
def Cov (o : Nat → Bool) (T0 : Tr) : Nat → Tr → Prop
  | 0, _ => True
  | n + 1, t => (o t.a = true → ∀ init c, Along t.path T0 (init ++ [c]) → c = t) ∧ (o t.a = false → (∀ init c, Along t.path T0 (init ++ [c]) → c.a ≠ t.a) ∧ ∀ c ∈ t.ks, Cov o T0 n c)
theorem Mx.cov {N : Nat} {k : List UInt8} {T0 : Tr} (hw : WF T0) (hl : AllLt N T0) : ∀ {n : Nat} {T : Tr}, Mx N k T0 n T → Cov (fun a => decide (a < N)) T0 n T
  | 0, _, _ => trivial
  | n + 1, T, h => by
    refine ⟨fun ho init c hA => ((h.1 (of_decide_eq_true ho)).1).last hw hA, fun ho => ?_⟩
    have ho' : N ≤ T.a := by have := of_decide_eq_false ho; omega
    refine ⟨fun init c hA e => ?_, fun c hc => Mx.cov hw hl ((h.2 ho').2 c hc)⟩
    have := hl c (along_nd hA .top c (by simp))
    omega
theorem Cov.none {T0 : Tr} (hks : T0.ks = []) : ∀ (n : Nat) (T : Tr), (∀ x, Nd T x → x.a ≠ T0.a) → Cov (fun _ => false) T0 n T
  | 0, _, _ => trivial
  | n + 1, T, h => by
    refine ⟨fun ho => (by cases ho), fun _ => ⟨fun init c hA e => ?_, fun c hc => Cov.none hks n c (fun x hx => h x ?_)⟩⟩
    · have hn := along_nd hA .top c (by simp)
      have : c = T0 := by
        cases hn with
        | top => rfl
        | kid hx hc =>
          have : ∀ {x}, Nd T0 x → x.ks = [] := fun {x} hx => by
            induction hx with
            | top => exact hks
            | kid _ hc ih => rw [ih] at hc; cases hc
          rw [this hx] at hc; cases hc
      subst this
      exact h T .top e.symm
    · have : ∀ {x}, Nd c x → Nd T x := fun {x} hx => by
        induction hx with
        | top => exact Nd.top.kid hc
        | kid _ hc ih => exact ih.kid hc
      exact this hx
theorem fr_none : ∀ (n : Nat) (T : Tr), fr (fun _ => false) n T = (pths n T).length
  | 0, _ => rfl
  | n + 1, T => by
    unfold fr pths
    rw [if_neg (by simp), List.length_cons, List.length_flatMap]
    have : ∀ l : List Tr, (l.map (fr (fun _ => false) n)).sum = (l.map fun c => (pths n c).length).sum := fun l => by
      induction l with
      | nil => rfl
      | cons c l ih => simp only [List.map_cons, List.sum_cons, ih, fr_none n c]
    rw [this]; omega
theorem Cov.same {T : Tr} (hw : WF T) (n : Nat) : Cov (fun _ => true) T n T := by
  cases n with
  | zero => trivial
  | succ n => exact ⟨fun _ init c hA => Nd.top.last hw hA, fun ho => by cases ho⟩

/-- The paths that are beginnings of k. -/
def onW (k : List UInt8) (P : List ByteArray) : Nat := P.countP fun q => startsB k (kyb q)
theorem onW_none {k : List UInt8} {n : Nat} {T : Tr} (hw : WF T) (hn : ¬ T.path <+: k) : onW k (pths n T) = 0 := by
  unfold onW
  rw [List.countP_eq_zero]
  intro q hq h
  exact hn ((pths_pre hw hq).trans ((startsB_iff _ _).1 h))
theorem Mx.count {N : Nat} {k : List UInt8} {T0 : Tr} : ∀ {n : Nat} {T : Tr}, Mx N k T0 n T → WF T → fr (fun a => decide (a < N)) n T = onW k (pths n T)
  | 0, _, _, _ => rfl
  | n + 1, T, h, hw => by
    by_cases ho : T.a < N
    · rw [onW_none hw (h.1 ho).2]
      unfold fr
      rw [if_pos (by simpa using ho)]
    · obtain ⟨h1, h2⟩ := h.2 (by omega)
      unfold fr
      rw [if_neg (by simpa using ho)]
      show _ = onW k (T.p :: T.ks.flatMap (pths n))
      unfold onW
      rw [List.countP_cons_of_pos (p := fun q => startsB k (kyb q)) (a := T.p) (show startsB k (kyb T.p) = true from (startsB_iff _ _).2 h1)]
      have : ∀ l : List Tr, (∀ c ∈ l, Mx N k T0 n c ∧ WF c) → (l.map (fr (fun a => decide (a < N)) n)).sum = (l.flatMap (pths n)).countP fun q => startsB k (kyb q) := fun l => by
        induction l with
        | nil => intro _; rfl
        | cons c l ih =>
          intro hl
          have hc := hl c (by simp)
          rw [List.map_cons, List.sum_cons, List.flatMap_cons, List.countP_append, ih (fun d hd => hl d (by simp [hd])), Mx.count hc.1 hc.2]
          rfl
      rw [this T.ks (fun c hc => ⟨h2 c hc, hw.kids' _ hc⟩)]
      omega
end Go.Proofs.Ytcdfbbjakkmmoaa
