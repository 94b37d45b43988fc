/- The nodes of a tree, in order; in canonical form they are those that the keys fix. -/
import Derived.Test.YtcdfbbjakkmmoaaXHeld
import Derived.Test.YtcdfbbjakkmmoaaRCanon
namespace Go.Proofs.Ytcdfbbjakkmmoaa
open Go.RowKit
set_option linter.unusedVariables false

/-- The paths of the nodes from one on, in order. -/
def pths : Nat → Tr → List ByteArray
  | 0, _ => []
  | n + 1, t => t.p :: t.ks.flatMap (pths n)
theorem pths_pre {n : Nat} : ∀ {t : Tr} {p : ByteArray}, WF t → p ∈ pths n t → t.path <+: kyb p := by
  induction n with
  | zero => intro t p _ h; cases h
  | succ n ih =>
    intro t p hw h
    rcases List.mem_cons.1 h with rfl | h
    · exact List.prefix_refl _
    · obtain ⟨c, hc, h⟩ := List.mem_flatMap.1 h
      exact (hw.ext' _ hc).1.trans (ih (hw.kids' _ hc) h)
theorem pths_sorted {n : Nat} : ∀ {t : Tr}, WF t → SortedK (pths n t) := by
  induction n with
  | zero => intro t _; exact List.Pairwise.nil
  | succ n ih =>
    intro t hw
    show SortedK (t.p :: t.ks.flatMap (pths n))
    unfold SortedK
    rw [List.pairwise_cons]
    refine ⟨?_, ?_⟩
    · intro q hq
      obtain ⟨c, hc, hq⟩ := List.mem_flatMap.1 hq
      have e1 := hw.ext' _ hc
      have p1 := pths_pre (hw.kids' _ hc) hq
      have l1 := p1.length_le
      rw [path_length] at l1
      exact pre_lt (p := t.path) (e1.1.trans p1) (by rw [path_length]; omega)
    · refine flatMap_sorted (s := fun a b => a.byte t.p.size < b.byte t.p.size) t.ks (List.pairwise_map.1 hw.ord') (fun a ha => ih (hw.kids' _ ha)) ?_
      intro a ha b hb hab x hx y hy
      have e1 := hw.ext' _ ha
      have e2 := hw.ext' _ hb
      have p1 := pths_pre (hw.kids' _ ha) hx
      have p2 := pths_pre (hw.kids' _ hb) hy
      have l1 := p1.length_le
      have l2 := p2.length_le
      rw [path_length] at l1 l2
      refine lt_byte (p := t.path) (e1.1.trans p1) (e2.1.trans p2) (by rw [path_length]; omega) (by rw [path_length]; omega) ?_
      rw [path_length, prefix_getD p1 _ (by rw [path_length]; omega), prefix_getD p2 _ (by rw [path_length]; omega)]
      exact hab

/-! ### common beginnings -/
theorem cmn_app (p a b : List UInt8) : cmn (p ++ a) (p ++ b) = p.length + cmn a b := by
  induction p with
  | nil => simp
  | cons c p ih => simp only [List.cons_append, cmn, if_true, ih, List.length_cons]; omega
theorem commonB_eq {a b p : ByteArray} (ha : kyb p <+: kyb a) (hb : kyb p <+: kyb b) (h : a = p ∨ b = p ∨ (kyb a).getD p.size 0 ≠ (kyb b).getD p.size 0) : commonB a b = p := by
  apply kyb_inj
  rw [commonB_kyb]
  obtain ⟨x, hx⟩ := ha
  obtain ⟨y, hy⟩ := hb
  have hc : cmn (kyb a) (kyb b) = (kyb p).length := by
    rw [← hx, ← hy, cmn_app]
    suffices cmn x y = 0 by omega
    rcases h with rfl | rfl | h
    · have : x = [] := by
        have := congrArg List.length hx
        simp at this; exact this
      subst this; simp [cmn]
    · have : y = [] := by
        have := congrArg List.length hy
        simp at this; exact this
      subst this; cases x <;> simp [cmn]
    · rw [← hx, ← hy, ← kyb_len] at h
      cases x with
      | nil => simp [cmn]
      | cons c x =>
        cases y with
        | nil => simp [cmn]
        | cons d y =>
          simp [List.getD] at h
          simp [cmn, h]
  rw [hc, ← hx, List.take_left]
theorem commonB_pre (a b : ByteArray) : kyb (commonB a b) <+: kyb a := by rw [commonB_kyb]; exact List.take_prefix _ _
theorem pre_cmn {p a b : List UInt8} (ha : p <+: a) (hb : p <+: b) : p.length ≤ cmn a b := by
  obtain ⟨x, rfl⟩ := ha
  obtain ⟨y, rfl⟩ := hb
  rw [cmn_app]; omega
theorem cmn_take : ∀ (a b : List UInt8), a.take (cmn a b) = b.take (cmn a b)
  | [], b => by simp [cmn]
  | c :: a, [] => by simp [cmn]
  | c :: a, d :: b => by
    unfold cmn
    split
    · rename_i h; subst h
      simp [cmn_take a b]
    · simp
/-- What lies between two texts that begin with p begins with p. -/
theorem between_pre : ∀ {p a b k : List UInt8}, p <+: a → p <+: b → ¬ Lt k a → ¬ Lt b k → p <+: k
  | [], _, _, _, _, _, _, _ => List.nil_prefix
  | c :: p, a, b, k, ha, hb, h1, h2 => by
    obtain ⟨x, rfl⟩ := ha
    obtain ⟨y, rfl⟩ := hb
    cases k with
    | nil => exact absurd (lt_nil_cons _ _) h1
    | cons d k =>
      simp only [List.cons_append, lt_cons, not_or, not_and] at h1 h2
      have : d = c := by
        rcases x_u8_cases d c with h | h | h
        · exact absurd h h1.1
        · exact h
        · exact absurd h h2.1
      subst this
      have := between_pre (p := p) ⟨x, rfl⟩ ⟨y, rfl⟩ (h1.2 rfl) (h2.2 rfl)
      simpa using this

/-- Beneath a node: the path of two keys' common beginning. -/
theorem common_node {n : Nat} : ∀ {t : Tr} {a b : ByteArray} {x y : Value}, WF t → Dep n t → Has t (kyb a) x → Has t (kyb b) y → commonB a b ∈ pths n t := by
  induction n with
  | zero => intro t a b x y _ h; cases h
  | succ n ih =>
    intro t a b x y hw hd ha hb
    have pa := ha.pre hw
    have pb := hb.pre hw
    have hhere : ∀ {k : ByteArray}, (kyb k).length ≤ t.p.size → t.path <+: kyb k → k = t.p := fun hl hp => (key_eq hp (by have := hp.length_le; rw [path_length] at this; rw [kyb_len] at hl this; omega)).symm
    by_cases h1 : (kyb a).length ≤ t.p.size
    · have : commonB a b = t.p := commonB_eq pa pb (.inl (hhere h1 pa))
      rw [this]; exact List.mem_cons_self ..
    · by_cases h2 : (kyb b).length ≤ t.p.size
      · have : commonB a b = t.p := commonB_eq pa pb (.inr (.inl (hhere h2 pb)))
        rw [this]; exact List.mem_cons_self ..
      · obtain ⟨c, hc, gc, ec⟩ := ha.down hw (by omega)
        obtain ⟨d, hdm, gd, ed⟩ := hb.down hw (by omega)
        by_cases h3 : c = d
        · subst h3
          exact List.mem_cons_of_mem _ (List.mem_flatMap.2 ⟨c, hc, ih (hw.kids' _ hc) (hd _ hc) gc gd⟩)
        · have : commonB a b = t.p := commonB_eq pa pb (.inr (.inr (fun e => h3 (hw.inj hc hdm (by rw [ec, ed]; exact e)))))
          rw [this]; exact List.mem_cons_self ..
theorem key_node {n : Nat} : ∀ {t : Tr} {a : ByteArray} {x : Value}, WF t → Dep n t → Has t (kyb a) x → a ∈ pths n t := fun {t a x} hw hd h => by
  have := common_node hw hd h h
  rwa [commonB_eq (List.prefix_refl _) (List.prefix_refl _) (.inl rfl)] at this

/-- Which paths the keys fix. -/
theorem mem_pathsN {ks : List ByteArray} {p : ByteArray} : ∀ {i : Nat}, i ≤ ks.length → (p ∈ pathsN ks i ↔ p = ⟨#[]⟩ ∨ (∃ j, ∃ h : j < ks.length, j < i ∧ p = ks[j]) ∨ ∃ j, ∃ h : j + 1 < ks.length, j + 1 < i ∧ p = commonB ks[j] ks[j + 1])
  | 0, _ => by
    simp only [pathsN, List.mem_singleton]
    constructor
    · exact .inl
    · rintro (h | ⟨j, _, h, _⟩ | ⟨j, _, h, _⟩)
      · exact h
      · omega
      · omega
  | i + 1, hi => by
    have ih := mem_pathsN (ks := ks) (p := p) (i := i) (by omega)
    have hi' : i < ks.length := by omega
    have g0 : ks.getD i ⟨#[]⟩ = ks[i] := by simp [hi']
    unfold pathsN
    rw [mem_withK, g0]
    have hm : (p ∈ (if i = 0 then pathsN ks i else withK (pathsN ks i) (commonB (ks.getD (i - 1) ⟨#[]⟩) ks[i]))) ↔ p ∈ pathsN ks i ∨ ∃ j, ∃ h : j + 1 < ks.length, j + 1 = i ∧ p = commonB ks[j] ks[j + 1] := by
      split
      · rename_i h0; subst h0
        constructor
        · exact .inl
        · rintro (h | ⟨j, _, h, _⟩)
          · exact h
          · omega
      · rename_i h0
        have hl1 : i - 1 < ks.length := Nat.lt_of_le_of_lt (Nat.sub_le _ _) hi'
        have g1 : ks.getD (i - 1) ⟨#[]⟩ = ks[i - 1] := by simp [hl1]
        rw [mem_withK, g1]
        constructor
        · rintro (h | h)
          · have hlt : i - 1 + 1 < ks.length := by omega
            have he : ks[i - 1 + 1] = ks[i] := by congr 1; omega
            exact .inr ⟨i - 1, hlt, by omega, by rw [he]; exact h⟩
          · exact .inl h
        · rintro (h | ⟨j, h1, h2, h3⟩)
          · exact .inr h
          · subst h2; exact .inl (by simpa using h3)
    rw [hm, ih]
    constructor
    · rintro (h | ((h | ⟨j, h1, h2, h3⟩ | ⟨j, h1, h2, h3⟩) | ⟨j, h1, h2, h3⟩))
      · exact .inr (.inl ⟨i, hi', by omega, h⟩)
      · exact .inl h
      · exact .inr (.inl ⟨j, h1, by omega, h3⟩)
      · exact .inr (.inr ⟨j, h1, by omega, h3⟩)
      · exact .inr (.inr ⟨j, h1, by omega, h3⟩)
    · rintro (h | ⟨j, h1, h2, h3⟩ | ⟨j, h1, h2, h3⟩)
      · exact .inr (.inl (.inl h))
      · rcases Nat.lt_or_ge j i with hc | hc
        · exact .inr (.inl (.inr (.inl ⟨j, h1, hc, h3⟩)))
        · have : j = i := by omega
          subst this; exact .inl h3
      · rcases Nat.lt_or_ge (j + 1) i with hc | hc
        · exact .inr (.inl (.inr (.inr ⟨j, h1, hc, h3⟩)))
        · exact .inr (.inr ⟨j, h1, by omega, h3⟩)

/-- Between two keys that part behind p are two neighbours that part there. -/
theorem parted {ks : List ByteArray} (hs : SortedK ks) {p : ByteArray} {j : Nat} (hj : j < ks.length) (hpj : kyb p <+: kyb ks[j]) : ∀ (m i : Nat) (hi : i < j), j - i = m → kyb p <+: kyb (ks[i]'(by omega)) → p.size < (ks[i]'(by omega)).size → (kyb (ks[i]'(by omega))).getD p.size 0 ≠ (kyb ks[j]).getD p.size 0 → ∃ q, ∃ h : q + 1 < ks.length, p = commonB ks[q] ks[q + 1] := by
  intro m
  induction m with
  | zero => intro i hi h; omega
  | succ m ih =>
    intro i hi hm hpi hl hne
    have hi1 : i + 1 < ks.length := by omega
    have hlt := sortedK_at hs (show i < i + 1 by omega) hi1
    have hp1 : kyb p <+: kyb ks[i + 1] := by
      refine between_pre hpi hpj (fun h => lt_asy hlt h) (fun h => ?_)
      rcases Nat.lt_or_ge (i + 1) j with hc | hc
      · exact lt_asy (sortedK_at hs hc hj) h
      · have : j = i + 1 := by omega
        subst this; exact lt_irr _ h
    by_cases hb : (kyb ks[i]).getD p.size 0 = (kyb ks[i + 1]).getD p.size 0
    · have hij : i + 1 < j := by
        rcases Nat.lt_or_ge (i + 1) j with hc | hc
        · exact hc
        · have : j = i + 1 := by omega
          subst this; exact absurd hb hne
      refine ih (i + 1) hij (by omega) hp1 ?_ (by rw [← hb]; exact hne)
      have h1 := hp1.length_le
      rw [kyb_len, kyb_len] at h1
      rcases Nat.lt_or_ge p.size ks[i + 1].size with hc | hc
      · exact hc
      · have e : kyb p = kyb ks[i + 1] := hp1.eq_of_length (by rw [kyb_len, kyb_len]; omega)
        exact absurd hlt (pre_not_lt (e ▸ hpi))
    · exact ⟨i, hi1, (commonB_eq hpi hp1 (.inr (.inr hb))).symm⟩

theorem node_path {ks : List ByteArray} (hs : SortedK ks) {n : Nat} : ∀ {t : Tr}, WF t → Canon t → Dep n t → (∀ k x, Has t k x → ∃ i, ∃ h : i < ks.length, kyb ks[i] = k) → Need t → ∀ p ∈ pths n t, (∃ j, ∃ h : j < ks.length, p = ks[j]) ∨ ∃ j, ∃ h : j + 1 < ks.length, p = commonB ks[j] ks[j + 1] := by
  induction n with
  | zero => intro t _ _ h; cases h
  | succ n ih =>
    intro t hw hC hd hk hN p hp
    rcases List.mem_cons.1 hp with rfl | hp
    · rcases hN with h1 | h1
      · obtain ⟨v, hv⟩ := Option.isSome_iff_exists.1 h1
        obtain ⟨i, hi, e⟩ := hk _ _ (.here hv)
        exact .inl ⟨i, hi, (kyb_inj e).symm⟩
      · have m0 : t.ks[0] ∈ t.ks := List.getElem_mem (by omega)
        have m1 : t.ks[1] ∈ t.ks := List.getElem_mem (by omega)
        obtain ⟨k0, x0, g0⟩ := (hC.kids _ m0).some (hC.need _ m0)
        obtain ⟨k1, x1, g1⟩ := (hC.kids _ m1).some (hC.need _ m1)
        have b0 := g0.byte hw m0
        have b1 := g1.byte hw m1
        have hlt := lt_of_sorted hw.ord' (i := 0) (j := 1) (by omega) (by omega)
        rw [b0, b1] at hlt
        have q0 := (hw.ext' _ m0).1.trans (g0.pre (hw.kids' _ m0))
        have q1 := (hw.ext' _ m1).1.trans (g1.pre (hw.kids' _ m1))
        have l0 : t.p.size < k0.length := by have h1 := (g0.pre (hw.kids' _ m0)).length_le; rw [path_length] at h1; have h2 := (hw.ext' _ m0).2; omega
        have l1 : t.p.size < k1.length := by have h1 := (g1.pre (hw.kids' _ m1)).length_le; rw [path_length] at h1; have h2 := (hw.ext' _ m1).2; omega
        obtain ⟨i, hi, rfl⟩ := hk _ _ (.kid m0 g0)
        obtain ⟨j, hj, rfl⟩ := hk _ _ (.kid m1 g1)
        have hkl : Lt (kyb ks[i]) (kyb ks[j]) := lt_byte (p := t.path) q0 q1 (by rw [path_length]; exact l0) (by rw [path_length]; exact l1) (by rw [path_length]; exact hlt)
        have hij : i < j := by
          rcases Nat.lt_or_ge i j with hc | hc
          · exact hc
          · rcases Nat.lt_or_ge j i with hc2 | hc2
            · exact absurd (sortedK_at hs hc2 hi) (lt_asy hkl)
            · have : i = j := by omega
              subst this; exact absurd hkl (lt_irr _)
        exact .inr (parted hs hj q1 _ i hij rfl q0 (by rw [kyb_len] at l0; exact l0) (fun e => by rw [e] at hlt; exact UInt8.lt_irrefl _ hlt))
    · obtain ⟨c, hc, hp⟩ := List.mem_flatMap.1 hp
      exact ih (hw.kids' _ hc) (hC.kids _ hc) (hd _ hc) (fun k x h => hk k x (.kid hc h)) (hC.need _ hc) p hp

/-- The nodes of a tree in canonical form are those that its keys fix. -/
theorem pths_paths {T : Tr} {es : List En} {n : Nat} (hw : WF T) (hC : Canon T) (hr : T.p = kE) (hd : Dep n T) (hh : HasE T es) (hs : SortedE es) : pths n T = pathsN (keysOf es) es.length := by
  have hsk := hs.keys
  have hkl := keysOf_len es
  have hsp : SortedK (pathsN (keysOf es) es.length) := pathsN_sorted _ _
  refine sorted_uniq (r := fun a b => Lt (kyb a) (kyb b)) (fun a => lt_irr _) (fun a b c => lt_tr) _ _ (pths_sorted hw) hsp fun p => ?_
  rw [mem_pathsN (by omega)]
  have hin : ∀ (j : Nat) (h : j < (keysOf es).length), ∃ x, Has T (kyb (keysOf es)[j]) x := fun j h => by
    have hj : j < es.length := by omega
    exact ⟨_, (hh _ (.int .i64 es[j].2)).2 ⟨es[j], List.getElem_mem hj, by simp [keysOf, kyl, kyb], rfl⟩⟩
  have hof : ∀ k x, Has T k x → ∃ i, ∃ h : i < (keysOf es).length, kyb (keysOf es)[i] = k := fun k x h => by
    obtain ⟨e, he, h1, -⟩ := (hh k x).1 h
    obtain ⟨i, hi, rfl⟩ := List.getElem_of_mem he
    exact ⟨i, by omega, by rw [← h1]; simp [keysOf, kyl, kyb]⟩
  constructor
  · intro hp
    cases n with
    | zero => cases hd
    | succ n =>
      rcases List.mem_cons.1 hp with rfl | hp
      · exact .inl hr
      · obtain ⟨c, hc, hp⟩ := List.mem_flatMap.1 hp
        rcases node_path hsk (hw.kids' _ hc) (hC.kids _ hc) (hd _ hc) (fun k x h => hof k x (.kid hc h)) (hC.need _ hc) p hp with ⟨j, h, e⟩ | ⟨j, h, e⟩
        · exact .inr (.inl ⟨j, h, by omega, e⟩)
        · exact .inr (.inr ⟨j, h, by omega, e⟩)
  · rintro (rfl | ⟨j, h, -, rfl⟩ | ⟨j, h, -, rfl⟩)
    · cases n with
      | zero => cases hd
      | succ n => exact List.mem_cons.2 (.inl hr.symm)
    · obtain ⟨x, hx⟩ := hin j h
      exact key_node hw hd hx
    · obtain ⟨x, hx⟩ := hin j (by omega)
      obtain ⟨y, hy⟩ := hin (j + 1) h
      exact common_node hw hd hx hy
end Go.Proofs.Ytcdfbbjakkmmoaa
