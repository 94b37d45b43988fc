/- Layer 3 (radix): what the trees of RadixForgets hold. -/
import Derived.Test.YtedgaiblcpekaaaRAlike
import Derived.Test.YtedgaiblcpekaaaRBuilt
import Derived.Test.YtedgaiblcpekaaaRDelete
namespace Go.Proofs.Ytedgaiblcpekaaa
open Go.RowKit
set_option linter.unusedVariables false

/-- k's last place, not before p, is x. -/
def KeyFrom (ks : List ByteArray) (p : Nat) (k : List UInt8) (x : Value) : Prop :=
  ∃ (i : Nat) (h : i < ks.length), p ≤ i ∧ ks[i].data.toList = k ∧ x = .int .i64 (i : Int) ∧ ∀ j (hj : j < ks.length), i < j → ks[j].data.toList ≠ k

theorem keyFrom_end (ks : List ByteArray) (k : List UInt8) (x : Value) : ¬ KeyFrom ks ks.length k x := by
  rintro ⟨i, h, h1, -⟩
  omega
theorem keyFrom_ex (ks : List ByteArray) (p : Nat) (k : List UInt8) : ∀ (m j : Nat) (hj : j < ks.length), ks.length - j = m → p ≤ j → ks[j].data.toList = k → ∃ x, KeyFrom ks p k x := by
  intro m
  induction m using Nat.strongRecOn with
  | ind m ih =>
    intro j hj hm hp hk
    by_cases h : ∃ (q : Nat) (hq : q < ks.length), j < q ∧ ks[q].data.toList = k
    · obtain ⟨q, hq, h1, h2⟩ := h
      exact ih (ks.length - q) (by omega) q hq rfl (by omega) h2
    · exact ⟨_, j, hj, hp, hk, rfl, fun q hq h1 h2 => h ⟨q, hq, h1, h2⟩⟩
theorem keyFrom_old {ks : List ByteArray} {p : Nat} (hp : p < ks.length) {y : Value} (h : KeyFrom ks (p + 1) ks[p].data.toList y) (k : List UInt8) (x : Value) : KeyFrom ks (p + 1) k x ↔ KeyFrom ks p k x := by
  constructor
  · rintro ⟨i, h0, h1, h2⟩
    exact ⟨i, h0, by omega, h2⟩
  · rintro ⟨i, h0, h1, h2, h3, h4⟩
    refine ⟨i, h0, ?_, h2, h3, h4⟩
    rcases Nat.lt_or_ge p i with hc | hc
    · omega
    · have : i = p := by omega
      subst this
      obtain ⟨q, hq, g1, g2, -⟩ := h
      exact absurd (g2.trans h2) (h4 q hq (by omega))
theorem keyFrom_new {ks : List ByteArray} {p : Nat} (hp : p < ks.length) (h : ∀ y, ¬ KeyFrom ks (p + 1) ks[p].data.toList y) (k : List UInt8) (x : Value) :
    ((k = ks[p].data.toList ∧ x = .int .i64 (p : Int)) ∨ (k ≠ ks[p].data.toList ∧ KeyFrom ks (p + 1) k x)) ↔ KeyFrom ks p k x := by
  constructor
  · rintro (⟨rfl, rfl⟩ | ⟨h1, i, h0, h2, h3⟩)
    · refine ⟨p, hp, Nat.le_refl _, rfl, rfl, fun j hj h1 h2 => ?_⟩
      obtain ⟨y, hy⟩ := keyFrom_ex ks (p + 1) _ _ j hj rfl (by omega) h2
      exact h y hy
    · exact ⟨i, h0, by omega, h3⟩
  · rintro ⟨i, h0, h1, h2, h3, h4⟩
    rcases Nat.lt_or_ge p i with hc | hc
    · refine .inr ⟨fun e => ?_, i, h0, hc, h2, h3, h4⟩
      exact h x ⟨i, h0, hc, h2.trans e, h3, fun j hj hij e2 => h4 j hj hij (e2.trans e.symm)⟩
    · have : i = p := by omega
      subst this
      exact .inl ⟨h2.symm, h3⟩
theorem keyFrom_snoc (l : List ByteArray) (k0 : ByteArray) (k : List UInt8) (x : Value) :
    KeyFrom (l ++ [k0]) 0 k x ↔ (k = k0.data.toList ∧ x = .int .i64 (l.length : Int)) ∨ (k ≠ k0.data.toList ∧ KeyFrom l 0 k x) := by
  have hlast : (l ++ [k0])[l.length]'(by simp) = k0 := by simp
  constructor
  · rintro ⟨i, h0, h1, h2, h3, h4⟩
    rcases Nat.lt_or_ge i l.length with hc | hc
    · have hne := h4 l.length (by simp) hc
      rw [hlast] at hne
      refine .inr ⟨fun e => hne e.symm, i, hc, h1, ?_, h3, fun j hj hij => ?_⟩
      · rw [List.getElem_append_left hc] at h2; exact h2
      · have := h4 j (by simp; omega) hij
        rw [List.getElem_append_left hj] at this; exact this
    · have : i = l.length := by simp at h0; omega
      subst this
      rw [hlast] at h2
      exact .inl ⟨h2.symm, h3⟩
  · rintro (⟨rfl, rfl⟩ | ⟨hne, i, h0, h1, h2, h3, h4⟩)
    · refine ⟨l.length, by simp, Nat.zero_le _, by rw [hlast], rfl, fun j hj hij => ?_⟩
      simp at hj
      omega
    · refine ⟨i, by simp; omega, h1, by rw [List.getElem_append_left h0]; exact h2, h3, fun j hj hij => ?_⟩
      rcases Nat.lt_or_ge j l.length with hc | hc
      · rw [List.getElem_append_left hc]; exact h4 j hc hij
      · have : j = l.length := by simp at hj; omega
        subst this
        rw [hlast]
        exact fun e => hne e.symm

/-- A tree with all that is said of it. -/
structure Full (w W : World) (tb : Nat) (T : Tr) (ne : Int) (d : Nat) (H : List UInt8 → Value → Prop) : Prop where
  good : Good w W tb T ne d
  canon : Canon T
  cnt : Cnt T ne
  has : ∀ k x, Has T k x ↔ H k x

theorem Full.keep {w W W' : World} {tb : Nat} {T : Tr} {ne : Int} {d : Nat} {H : List UInt8 → Value → Prop} (h : Full w W tb T ne d H) (hb : Below W.heap.size W W') : Full w W' tb T ne d H := ⟨h.good.keep hb, h.canon, h.cnt, h.has⟩
theorem Full.congr {w W : World} {tb : Nat} {T : Tr} {ne : Int} {d : Nat} {H H' : List UInt8 → Value → Prop} (h : Full w W tb T ne d H) (he : ∀ k x, H k x ↔ H' k x) : Full w W tb T ne d H' := ⟨h.good, h.canon, h.cnt, fun k x => (h.has k x).trans (he k x)⟩

/-- What Insert does to how many there are. -/
theorem cnt_insert {T T' c : Tr} {ne : Int} {N : Nat} {k : ByteArray} {v : Vl} {init : List Tr} (hw : WF T) (hp : T.path <+: k.data.toList) (hc : Cnt T ne) (hA : Along k.data.toList T (init ++ [c])) (hi : InsR N k v T T') : Cnt T' (ne + plusNew (valAt c k)) := by
  have hh := has_along hA rfl hw hp
  cases hv : valAt c k with
  | none =>
    have : plusNew (none : Option Vl) = 1 := rfl
    rw [this]
    exact hc.more (hi.has hw hp) fun x hx => by
      obtain ⟨y, hy, -⟩ := (hh x).1 hx
      rw [hv] at hy; cases hy
  | some y =>
    have : plusNew (some y) = 0 := rfl
    rw [this, Int.add_zero]
    exact hc.again (hi.has hw hp) ((hh y.x).2 ⟨y, hv, rfl⟩)

theorem Full.insert {w W W' : World} {tb tb' : Nat} {T T' c : Tr} {ne : Int} {d N : Nat} {k : ByteArray} {v : Vl} {init : List Tr} {H : List UInt8 → Value → Prop} (h : Full w W tb T ne d H) (hb : Below W.heap.size W W') (ht : TreeAt W' tb' T' (ne + plusNew (valAt c k))) (hi : InsR N k v T T') (hA : Along k.data.toList T (init ++ [c])) :
    Full w W' tb' T' (ne + plusNew (valAt c k)) (d + 1) (fun k' x => (k' = k.data.toList ∧ x = v.x) ∨ (k' ≠ k.data.toList ∧ H k' x)) := by
  have hp := root_pre h.good.root k.data.toList
  refine ⟨h.good.insert hb ht hi, (hi.canon h.good.wf h.canon).1, cnt_insert h.good.wf hp h.cnt hA hi, fun k' x => ?_⟩
  rw [hi.has h.good.wf hp, h.has]

theorem Full.gone {w W : World} {tb : Nat} {T c : Tr} {ne : Int} {d : Nat} {k : ByteArray} {init : List Tr} {H : List UInt8 → Value → Prop} (h : Full w W tb T ne d H) (hA : Along k.data.toList T (init ++ [c])) (hv : valAt c k = none) : Full w W tb T ne d (fun k' x => k' ≠ k.data.toList ∧ H k' x) := by
  have hp := root_pre h.good.root k.data.toList
  refine h.congr fun k' x => ⟨fun hx => ⟨fun e => ?_, hx⟩, fun hx => hx.2⟩
  subst e
  obtain ⟨y, hy, -⟩ := (has_along hA rfl h.good.wf hp x).1 ((h.has _ _).2 hx)
  rw [hv] at hy; cases hy

theorem Full.delete {w W W' : World} {tb tb' : Nat} {T T' c : Tr} {ne : Int} {d N : Nat} {k : ByteArray} {y : Vl} {init : List Tr} {H : List UInt8 → Value → Prop} (h : Full w W tb T ne d H) (hb : Below W.heap.size W W') (ht : TreeAt W' tb' T' (ne - 1)) (hi : DelR N k T T') (hA : Along k.data.toList T (init ++ [c])) (hv : valAt c k = some y) :
    Full w W' tb' T' (ne - 1) d (fun k' x => k' ≠ k.data.toList ∧ H k' x) := by
  have hp := root_pre h.good.root k.data.toList
  have hw := hi.wf h.good.wf hp
  have hcnt : Cnt T' (ne - 1) := h.cnt.less (hi.has h.good.wf hp) ((has_along hA rfl h.good.wf hp y.x).2 ⟨y, hv, rfl⟩)
  have hlo : 0 ≤ ne - 1 := by obtain ⟨l, -, -, e⟩ := hcnt; omega
  have hhi := h.good.hi
  refine ⟨⟨h.good.below.trans (hb.mono h.good.below.size), ht, hw.1, hw.2.trans h.good.root, hi.dep h.good.dep, hlo, by omega⟩, hi.canon h.canon, hcnt, fun k' x => ?_⟩
  rw [hi.has h.good.wf hp, h.has]

theorem Chain.full {l : List ByteArray} {T : Tr} {n : Int} (h : Chain (fun i _ => .int .i64 (i : Int)) l T n) : Canon T ∧ Cnt T n ∧ ∀ k x, Has T k x ↔ KeyFrom l 0 k x := by
  induction h with
  | nil a g => exact ⟨leaf_canon, Cnt.zero _ _ _, fun k x => by
      rw [has_nd]
      constructor
      · rintro (⟨y, h, -⟩ | ⟨c, h, -⟩)
        · cases h
        · simp at h
      · exact fun h => absurd h (keyFrom_end [] k x)⟩
  | snoc h hv hA hi ih =>
    obtain ⟨i1, i2, i3⟩ := ih
    obtain ⟨w1, w2, -⟩ := h.wf
    have hp := root_pre w2
    refine ⟨(hi.canon w1 i1).1, cnt_insert w1 (hp _) i2 hA hi, fun k x => ?_⟩
    rw [hi.has w1 (hp _), keyFrom_snoc, i3, hv]

theorem allInt_of {T : Tr} {ks : List ByteArray} {p : Nat} (h : ∀ k x, Has T k x ↔ KeyFrom ks p k x) : AllInt T := fun k x hx => by
  obtain ⟨i, -, -, -, hx, -⟩ := (h k x).1 hx
  exact ⟨i, hx⟩
end Go.Proofs.Ytedgaiblcpekaaa
