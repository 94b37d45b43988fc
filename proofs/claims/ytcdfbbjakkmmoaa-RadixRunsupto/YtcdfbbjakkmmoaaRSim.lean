/- Layer 3 (radix): trees of the same make with other values. -/
import Derived.Test.YtcdfbbjakkmmoaaRLook
import Derived.Test.YtcdfbbjakkmmoaaRHasI
namespace Go.Proofs.Ytcdfbbjakkmmoaa
open Go.RowKit
set_option linter.unusedVariables false

def VSim (ρ : ByteArray → Value → Value → Prop) (p : ByteArray) : Option Vl → Option Vl → Prop
  | none, none => True
  | some x, some y => ρ p x.x y.x
  | _, _ => False

inductive Sim (ρ : ByteArray → Value → Value → Prop) : Tr → Tr → Prop
  | mk {a p v ks g a' v' ks' g'} (hv : VSim ρ p v v') (hl : ks.length = ks'.length) (hk : ∀ (i : Nat) (h : i < ks.length) (h' : i < ks'.length), Sim ρ ks[i] ks'[i]) : Sim ρ (.nd a p v ks g) (.nd a' p v' ks' g')

variable {ρ : ByteArray → Value → Value → Prop}
def SimL (ρ : ByteArray → Value → Value → Prop) (l m : List Tr) : Prop := l.length = m.length ∧ ∀ (i : Nat) (h : i < l.length) (h' : i < m.length), Sim ρ l[i] m[i]

theorem Sim.p {t s : Tr} (h : Sim ρ t s) : t.p = s.p := by cases h; rfl
theorem Sim.v {t s : Tr} (h : Sim ρ t s) : VSim ρ t.p t.v s.v := by cases h; assumption
theorem Sim.ks {t s : Tr} (h : Sim ρ t s) : SimL ρ t.ks s.ks := by cases h; exact ⟨by assumption, by assumption⟩
theorem Sim.path {t s : Tr} (h : Sim ρ t s) : t.path = s.path := by unfold Tr.path; rw [h.p]
theorem Sim.byte {t s : Tr} (h : Sim ρ t s) (n : Nat) : t.byte n = s.byte n := by unfold Tr.byte; rw [h.path]
theorem VSim.some_iff {p : ByteArray} {v v' : Option Vl} (h : VSim ρ p v v') : v.isSome = v'.isSome := by
  cases v <;> cases v' <;> first | rfl | exact h.elim

theorem SimL.nil : SimL ρ [] [] := ⟨rfl, fun i h => by simp at h⟩
theorem SimL.append {a b c d : List Tr} (h : SimL ρ a b) (k : SimL ρ c d) : SimL ρ (a ++ c) (b ++ d) := by
  refine ⟨by simp [h.1, k.1], fun i h1 h2 => ?_⟩
  rcases Nat.lt_or_ge i a.length with hi | hi
  · rw [List.getElem_append_left hi, List.getElem_append_left (by rw [← h.1]; exact hi)]
    exact h.2 i hi _
  · rw [List.getElem_append_right hi, List.getElem_append_right (by rw [← h.1]; exact hi)]
    have e := h.1
    simp at h1 h2
    have := k.2 (i - a.length) (by omega) (by omega)
    simpa only [e] using this
theorem SimL.one {t s : Tr} (h : Sim ρ t s) : SimL ρ [t] [s] := ⟨rfl, fun i h1 h2 => by simp at h1; subst h1; exact h⟩
theorem SimL.cons {t s : Tr} {l m : List Tr} (h : Sim ρ t s) (k : SimL ρ l m) : SimL ρ (t :: l) (s :: m) := (SimL.one h).append k
theorem SimL.take {a b : List Tr} (h : SimL ρ a b) (n : Nat) : SimL ρ (a.take n) (b.take n) := by
  refine ⟨by simp [h.1], fun i h1 h2 => ?_⟩
  rw [List.getElem_take, List.getElem_take]
  exact h.2 i (by simp at h1; omega) (by simp at h2; omega)
theorem SimL.drop {a b : List Tr} (h : SimL ρ a b) (n : Nat) : SimL ρ (a.drop n) (b.drop n) := by
  refine ⟨by simp [h.1], fun i h1 h2 => ?_⟩
  rw [List.getElem_drop, List.getElem_drop]
  exact h.2 _ (by simp at h1; omega) (by simp at h2; omega)
theorem SimL.bytes {a b : List Tr} (h : SimL ρ a b) (n : Nat) : a.map (Tr.byte n) = b.map (Tr.byte n) := by
  apply List.ext_getElem
  · simp [h.1]
  · intro i h1 h2
    simp only [List.getElem_map]
    exact (h.2 i (by simpa using h1) (by simpa using h2)).byte n

theorem Sim.of {a g a' g' : Nat} {p p' : ByteArray} {v v' : Option Vl} {ks ks' : List Tr} (hp : p = p') (hv : VSim ρ p v v') (hk : SimL ρ ks ks') : Sim ρ (.nd a p v ks g) (.nd a' p' v' ks' g') := by
  subst hp
  exact .mk hv hk.1 hk.2
theorem SimL.get {a b : List Tr} (h : SimL ρ a b) {i : Nat} {c d : Tr} (h1 : a[i]? = some c) (h2 : b[i]? = some d) : Sim ρ c d := by
  obtain ⟨i1, rfl⟩ := List.getElem?_eq_some_iff.1 h1
  obtain ⟨i2, rfl⟩ := List.getElem?_eq_some_iff.1 h2
  exact h.2 i i1 i2

theorem posn_map (ks : List Tr) (n : Nat) (b : UInt8) : posn ks n b = (ks.map (Tr.byte n)).findIdx fun c => decide (b ≤ c) := by
  unfold posn
  rw [List.findIdx_map]
  rfl
theorem SimL.posn {a b : List Tr} (h : SimL ρ a b) (n : Nat) (c : UInt8) : posn a n c = posn b n c := by rw [posn_map, posn_map, h.bytes]
theorem thereB_map (ks : List Tr) (n : Nat) (b : UInt8) : thereB ks n b = ((ks.map (Tr.byte n))[Go.Proofs.Ytcdfbbjakkmmoaa.posn ks n b]?.map (· == b)).getD false := by
  unfold thereB
  rw [List.getElem?_map]
  cases ks[Go.Proofs.Ytcdfbbjakkmmoaa.posn ks n b]? <;> rfl
theorem SimL.there {a b : List Tr} (h : SimL ρ a b) (n : Nat) (c : UInt8) : thereB a n c = thereB b n c := by rw [thereB_map, thereB_map, h.bytes, h.posn]

theorem posn_sim {t s : Tr} (hs : Sim ρ t s) {k : ByteArray} (h : t.p.size < k.size) (h' : s.p.size < k.size) : posn t.ks t.p.size k[t.p.size] = posn s.ks s.p.size k[s.p.size] := by
  rw [← getD_key k _ h, ← getD_key k _ h', hs.ks.posn, hs.p]
theorem there_sim {t s : Tr} (hs : Sim ρ t s) {k : ByteArray} (h : t.p.size < k.size) (h' : s.p.size < k.size) : thereB t.ks t.p.size k[t.p.size] = thereB s.ks s.p.size k[s.p.size] := by
  rw [← getD_key k _ h, ← getD_key k _ h', hs.ks.there, hs.p]

theorem Sim.nx {t s : Tr} (h : Sim ρ t s) (ht : WF t) (hs : WF s) (k : List UInt8) : (nx t k = none ∧ nx s k = none) ∨ ∃ c d, nx t k = some c ∧ nx s k = some d ∧ Sim ρ c d ∧ c ∈ t.ks ∧ d ∈ s.ks := by
  have hk := h.ks
  cases hn : Go.Proofs.Ytcdfbbjakkmmoaa.nx t k with
  | some c =>
    obtain ⟨h1, h2⟩ := nx_mem hn
    obtain ⟨i, hi, rfl⟩ := List.getElem_of_mem h1
    have hi' : i < s.ks.length := by rw [← hk.1]; exact hi
    have hs1 := hk.2 i hi hi'
    exact .inr ⟨_, _, rfl, nx_some hs hi' (by rw [← hs1.path]; exact h2), hs1, h1, List.getElem_mem hi'⟩
  | none =>
    cases hm : Go.Proofs.Ytcdfbbjakkmmoaa.nx s k with
    | none => exact .inl ⟨rfl, rfl⟩
    | some d =>
      obtain ⟨h1, h2⟩ := nx_mem hm
      obtain ⟨i, hi, rfl⟩ := List.getElem_of_mem h1
      have hi' : i < t.ks.length := by rw [hk.1]; exact hi
      have := nx_some ht hi' (by rw [(hk.2 i hi' hi).path]; exact h2)
      rw [hn] at this
      cases this

theorem join_sim {N M : Nat} {k : ByteArray} {v u : Vl} {c d J K : Tr} (h : JoinR N k v c J) (h' : JoinR M k u d K) (hs : Sim ρ c d) (hv : ρ k v.x u.x) : Sim ρ J K := by
  have hl : ∀ l gl l' gl', Sim ρ (.nd l k (some v) [] gl) (.nd l' k (some u) [] gl') := fun _ _ _ _ => .mk hv rfl (fun i h => by simp at h)
  have hpre : ∀ m, m < k.size → k.data.toList <+: c.path → k.data.toList.getD m 0 = c.byte m := fun m hm hp => (prefix_getD hp m (by simpa using hm)).symm
  have huniq : ∀ m m', k.data.toList.take m = c.path.take m → k.data.toList.getD m' 0 ≠ c.byte m' → m' < m → False := fun m m' h1 h2 h3 => h2 (getD_take h1 h3)
  have hd : ∀ n, d.byte n = c.byte n := fun n => (hs.byte n).symm
  have hdp : d.path = c.path := hs.path.symm
  cases h with
  | above ha hg hp hlt =>
    cases h' with
    | above => exact .mk hv rfl (SimL.one hs).2
    | @less m _ _ _ _ _ _ _ _ h1 h2 he hlt' =>
      rw [hd, ← hpre m h1 hp] at hlt'
      exact absurd hlt' (UInt8.lt_irrefl _)
    | @more m _ _ _ _ _ _ _ _ h1 h2 he hlt' =>
      rw [hd, ← hpre m h1 hp] at hlt'
      exact absurd hlt' (UInt8.lt_irrefl _)
  | @less m _ _ _ _ _ _ _ _ h1 h2 he hlt =>
    cases h' with
    | above ha' hg' hp' hlt' =>
      rw [hdp] at hp'
      rw [hpre m h1 hp'] at hlt
      exact absurd hlt (UInt8.lt_irrefl _)
    | @less m' _ _ _ _ _ _ _ _ h1' h2' he' hlt' =>
      rw [hdp] at he'; rw [hd] at hlt'
      have hmm : m = m' := by
        rcases Nat.lt_trichotomy m m' with hc | hc | hc
        · exact (huniq _ _ he' (fun e => by rw [e] at hlt; exact absurd hlt (UInt8.lt_irrefl _)) hc).elim
        · exact hc
        · exact (huniq _ _ he (fun e => by rw [e] at hlt'; exact absurd hlt' (UInt8.lt_irrefl _)) hc).elim
      subst hmm
      exact Sim.of rfl trivial (SimL.cons (hl _ _ _ _) (SimL.one hs))
    | @more m' _ _ _ _ _ _ _ _ h1' h2' he' hlt' =>
      rw [hdp] at he'; rw [hd] at hlt'
      have hmm : m = m' := by
        rcases Nat.lt_trichotomy m m' with hc | hc | hc
        · exact (huniq _ _ he' (fun e => by rw [e] at hlt; exact absurd hlt (UInt8.lt_irrefl _)) hc).elim
        · exact hc
        · exact (huniq _ _ he (fun e => by rw [e] at hlt'; exact absurd hlt' (UInt8.lt_irrefl _)) hc).elim
      subst hmm
      exact absurd (UInt8.lt_trans hlt hlt') (UInt8.lt_irrefl _)
  | @more m _ _ _ _ _ _ _ _ h1 h2 he hlt =>
    cases h' with
    | above ha' hg' hp' hlt' =>
      rw [hdp] at hp'
      rw [hpre m h1 hp'] at hlt
      exact absurd hlt (UInt8.lt_irrefl _)
    | @less m' _ _ _ _ _ _ _ _ h1' h2' he' hlt' =>
      rw [hdp] at he'; rw [hd] at hlt'
      have hmm : m = m' := by
        rcases Nat.lt_trichotomy m m' with hc | hc | hc
        · exact (huniq _ _ he' (fun e => by rw [e] at hlt; exact absurd hlt (UInt8.lt_irrefl _)) hc).elim
        · exact hc
        · exact (huniq _ _ he (fun e => by rw [e] at hlt'; exact absurd hlt' (UInt8.lt_irrefl _)) hc).elim
      subst hmm
      exact absurd (UInt8.lt_trans hlt hlt') (UInt8.lt_irrefl _)
    | @more m' _ _ _ _ _ _ _ _ h1' h2' he' hlt' =>
      rw [hdp] at he'; rw [hd] at hlt'
      have hmm : m = m' := by
        rcases Nat.lt_trichotomy m m' with hc | hc | hc
        · exact (huniq _ _ he' (fun e => by rw [e] at hlt; exact absurd hlt (UInt8.lt_irrefl _)) hc).elim
        · exact hc
        · exact (huniq _ _ he (fun e => by rw [e] at hlt'; exact absurd hlt' (UInt8.lt_irrefl _)) hc).elim
      subst hmm
      exact Sim.of rfl trivial (SimL.cons hs (SimL.one (hl _ _ _ _)))

theorem ent_sim {N M : Nat} {k : ByteArray} {v u : Vl} {t s T S : Tr} (h : EntR N k v t T) (h' : EntR M k u s S) (hs : Sim ρ t s) (hp : t.path <+: k.data.toList) (hv : ρ k v.x u.x) : Sim ρ T S := by
  have hpp := hs.p
  have hsz : t.p.size = s.p.size := by rw [hpp]
  have hks := hs.ks
  cases h with
  | here ha hg hz =>
    cases h' with
    | here => exact Sim.of hpp (by rw [key_eq hp hz]; exact hv) hks
    | leaf _ _ _ _ hlt => omega
    | join _ _ hlt => omega
  | leaf ha hg hl hgl hlt hno =>
    cases h' with
    | here _ _ hz => omega
    | leaf _ _ _ _ hlt' hno' =>
      rw [posn_sim hs hlt hlt']
      exact Sim.of hpp hs.v (((hks.take _).append (SimL.one (Sim.of rfl (show VSim ρ k (some v) (some u) from hv) SimL.nil))).append (hks.drop _))
    | join _ _ hlt' hq hc hb hn hJ =>
      rw [there_sim hs hlt hlt'] at hno
      unfold thereB at hno
      rw [List.getElem?_eq_getElem hq, hc] at hno
      simp [hb] at hno
  | join ha hg hlt hq hc hb hn hJ =>
    cases h' with
    | here _ _ hz => omega
    | leaf _ _ _ _ hlt' hno' =>
      rw [← there_sim hs hlt hlt'] at hno'
      unfold thereB at hno'
      rw [List.getElem?_eq_getElem hq, hc] at hno'
      simp [hb] at hno'
    | join _ _ hlt' hq' hc' hb' hn' hJ' =>
      have e1 := (List.getElem?_eq_getElem hq).trans (congrArg some hc)
      have e2 := (List.getElem?_eq_getElem hq').trans (congrArg some hc')
      rw [posn_sim hs hlt hlt'] at e1
      rw [posn_sim hs hlt hlt']
      exact Sim.of hpp hs.v (((hks.take _).append (SimL.one (join_sim hJ hJ' (hks.get e1 e2) hv))).append (hks.drop _))

theorem ins_sim {N M : Nat} {k : ByteArray} {v u : Vl} {t T : Tr} (h : InsR N k v t T) : ∀ {s S : Tr}, InsR M k u s S → Sim ρ t s → WF t → WF s → t.path <+: k.data.toList → ρ k v.x u.x → Sim ρ T S := by
  induction h with
  | @entry t T hn h =>
    intro s S h' hs ht hw hp hv
    cases h' with
    | entry hn' h' => exact ent_sim h h' hs hp hv
    | down hn' =>
      rcases hs.nx ht hw k.data.toList with ⟨_, h2⟩ | ⟨c, d, h1, _⟩
      · rw [h2] at hn'; cases hn'
      · rw [h1] at hn; cases hn
  | @down t c c' a g hn hsz h ha hg ih =>
    intro s S h' hs ht hw hp hv
    cases h' with
    | entry hn' h' =>
      rcases hs.nx ht hw k.data.toList with ⟨h1, _⟩ | ⟨c, d, _, h2, _⟩
      · rw [h1] at hn; cases hn
      · rw [h2] at hn'; cases hn'
    | @down _ d d' a' g' hn' hsz' h' ha' hg' =>
      rcases hs.nx ht hw k.data.toList with ⟨h1, _⟩ | ⟨c2, d2, h1, h2, h3, h4, h5⟩
      · rw [h1] at hn; cases hn
      · rw [hn] at h1; cases h1
        rw [hn'] at h2; cases h2
        have hi := ih h' h3 (ht.kids' _ h4) (hw.kids' _ h5) (nx_mem hn).2 hv
        rw [posn_sim hs hsz hsz']
        exact Sim.of hs.p hs.v (((hs.ks.take _).append (SimL.one hi)).append (hs.ks.drop _))

theorem along_sim {k : List UInt8} {t : Tr} {l : List Tr} (h : Along k t l) : ∀ {s : Tr} {m : List Tr}, Along k s m → Sim ρ t s → WF t → WF s → SimL ρ l m := by
  induction h with
  | stop hn =>
    intro s m h' hs ht hw
    rcases hs.nx ht hw k with ⟨_, h2⟩ | ⟨c, d, h1, _⟩
    · cases h' with
      | stop => exact SimL.one hs
      | go hn' => rw [h2] at hn'; cases hn'
    · rw [h1] at hn; cases hn
  | go hn r ih =>
    intro s m h' hs ht hw
    rcases hs.nx ht hw k with ⟨h1, _⟩ | ⟨c, d, h1, h2, h3, h4, h5⟩
    · rw [h1] at hn; cases hn
    · rw [hn] at h1; cases h1
      cases h' with
      | stop hn' => rw [h2] at hn'; cases hn'
      | go hn' r' =>
        rw [h2] at hn'; cases hn'
        exact SimL.cons hs (ih r' h3 (ht.kids' _ h4) (hw.kids' _ h5))

theorem best_sim : ∀ (l m : List Tr) {t s : Tr}, SimL ρ l m → Sim ρ t s → Sim ρ (best t l) (best s m) := by
  intro l
  induction l with
  | nil =>
    intro m t s hl hs
    cases m with
    | nil => exact hs
    | cons => simp [SimL] at hl
  | cons x r ih =>
    intro m t s hl hs
    cases m with
    | nil => simp [SimL] at hl
    | cons y q =>
      have hxy : Sim ρ x y := hl.2 0 (by simp) (by simp)
      have hrq : SimL ρ r q := ⟨by simpa using hl.1, fun i h1 h2 => hl.2 (i + 1) (by simp; omega) (by simp; omega)⟩
      show Sim ρ (best (if x.v.isSome then x else t) r) (best (if y.v.isSome then y else s) q)
      refine ih q hrq ?_
      rw [hxy.v.some_iff]
      split
      · exact hxy
      · exact hs
end Go.Proofs.Ytcdfbbjakkmmoaa
