/- Layer 7 (rows): RowsFound in plain words: a row that fits has one key in an index over no list that isn't loose; it begins with the probe of the row's own contents. -/
import Derived.Test.YtgjcchafmcccjaaGreatDoorRwListM
import Derived.Test.YtgjcchafmcccjaaGreatDoorKREncode
namespace Go.Proofs.YtgjcchafmcccjaaGreatDoor
open Go.RowKit
set_option linter.unusedVariables false

/-- The law's own part of a field. -/
def partL (fs : List Fd) (l : Bool) (cs : List CV) (p : Int) : Pt := if (fs.getD p.toNat noF).k = 2 then ⟨2, ⟨#[]⟩, (cs.getD p.toNat noC).n⟩ else ⟨1, lowIfS l (cs.getD p.toNat noC).t, 0⟩
def lawP (fs : List Fd) (x : Ix) (cs : List CV) : List Pt := x.ov.map (partL fs x.l cs)
def hasL (fs : List Fd) (ov : List Int) : Bool := ov.any fun p => decide ((fs.getD p.toNat noF).k = 3)
theorem hasL_no {fs : List Fd} {ov : List Int} (h : hasL fs ov = false) : noList fs ov := by
  unfold hasL at h
  rw [List.any_eq_false] at h
  intro p hp
  simpa using h p hp
theorem lawP_own {fs : List Fd} {x : Ix} {cs : List CV} (hk : KindOk fs x.ov) (hn : noList fs x.ov) (e : ByteArray) : ownP fs x cs e = lawP fs x cs := by
  rw [ownP_map]
  unfold lawP
  apply List.map_congr_left
  intro p hp
  unfold partL cellP lowIfP
  rcases hk p hp with h | h | h
  · simp only [h, partK]
    cases x.l <;> simp [lowPt, lowIfS]
  · simp only [h, partK]
    cases x.l
    · simp
    · simp [lowPt]; rfl
  · exact absurd h (hn p hp)
theorem lawP_plain {fs : List Fd} {x : XV} {cs : List CV} (hok : OvOk x fs cs) (hn : noList fs x.x.ov) (hr : ∀ c ∈ cs, c.wf) : ∀ q ∈ lawP fs x.x cs, Plain q ∧ q.wf := by
  intro q hq
  obtain ⟨p, hp, rfl⟩ := List.mem_map.1 hq
  have hpl := hok.place p hp
  obtain ⟨i, rfl⟩ : ∃ i : Nat, p = (i : Int) := ⟨p.toNat, by omega⟩
  have hi : i < cs.length := by have := hok.same; omega
  have hc := hr _ (List.getElem_mem hi)
  have hg : cs.getD i noC = cs[i] := by rw [List.getD_eq_getElem?_getD, List.getElem?_eq_getElem hi]; rfl
  unfold partL
  rw [show ((i : Int).toNat) = i from rfl, hg]
  split
  · exact ⟨.inr ⟨rfl, rfl⟩, ⟨show (-9223372036854775808 : Int) ≤ 2 by decide, show (2 : Int) ≤ 9223372036854775807 by decide⟩, hc.2.1, show (0 : Nat) ≤ _ by omega⟩
  · exact pl_text (by rw [lowIfS_size]; exact hc.1)
theorem lawP_low {fs : List Fd} {x : Ix} {cs : List CV} : (if x.l then (lawP fs x cs).map lowPt else lawP fs x cs) = lawP fs x cs := by
  split
  · next hl =>
    unfold lawP
    rw [List.map_map]
    apply List.map_congr_left
    intro p _
    show lowPt (partL fs x.l cs p) = _
    unfold partL
    split
    · rfl
    · rw [hl]
      show (⟨1, lowS (lowS _), 0⟩ : Pt) = _
      rw [lowS_low]; rfl
  · rfl
theorem lawP_len (fs : List Fd) (x : Ix) (cs : List CV) : (lawP fs x cs).length = x.ov.length := by simp [lawP]
theorem plain_vld {q : Pt} (h : Plain q) : vldB q = true := by
  obtain ⟨k, t, n⟩ := q
  rcases h with ⟨h1, h2⟩ | ⟨h1, h2⟩
  · dsimp only at h1 h2; subst h1 h2; rfl
  · dsimp only at h1 h2; subst h1 h2
    have he : (⟨#[]⟩ : ByteArray).toList = [] := by rw [ByteArray.toList_eq]
    simp [vldB, he]
theorem fitX_all (t : Tb) (cs : List CV) : ∀ xs : List Ix, fitX t cs xs = 0 → ∀ x ∈ xs, (indexP t x cs).2 = 0
  | [], _, x, hx => by simp at hx
  | y :: xs, h, x, hx => by
    unfold fitX at h
    split at h
    · next hne => exact absurd h hne
    · next he =>
      rcases List.mem_cons.1 hx with rfl | hx
      · exact Decidable.not_not.1 he
      · exact fitX_all t cs xs h x hx
theorem putAll_one (k : Bs) : putAll [k] = [k] := by unfold putAll; simp [putR]
/-- What is asked of the law's index. -/
structure FOk (t : TV) (x : XV) (cs : List CV) : Prop where
  ok : OvOk x t.fs cs
  no : noList t.fs x.x.ov
  kind : KindOk t.fs x.x.ov
  loose : x.x.s = false
  fit : fitP t.tb cs = 0
  mem : x ∈ t.xs
  wf : ∀ c ∈ cs, c.wf
def bhP (t : TV) (x : XV) (cs : List CV) : List Pt := behindP t.tb x.x cs
theorem FOk.index {t : TV} {x : XV} {cs : List CV} (h : FOk t x cs) : indexP t.tb x.x cs = ([enc false (lawP t.fs x.x cs ++ bhP t x cs)], 0) ∧ (enc false (lawP t.fs x.x cs ++ bhP t x cs)).length ≤ 1024 := by
  have hfx : fitX t.tb cs t.tb.xs = 0 := by
    have := h.fit
    unfold fitP at this
    split at this
    · next hne => exact absurd this hne
    · exact this
  have h0 := fitX_all _ _ _ hfx x.x (List.mem_map_of_mem h.mem)
  have hel : elemsOf t.tb.fs x.x.ov cs = [⟨#[]⟩] := elems_nolist h.no
  unfold indexP at h0 ⊢
  split at h0
  · simp at h0
  · next hw =>
    have hw1 : wholeB t.tb x.x cs = true := by
      cases hb : wholeB t.tb x.x cs with
      | true => rfl
      | false => exact absurd ⟨hb, h.loose⟩ hw
    have hlk : lackB t.fs x.x cs ⟨#[]⟩ = false := by
      unfold wholeB at hw1
      rw [hel] at hw1
      simp at hw1
      exact hw1
    have hls : listsP t.tb x.x cs = [lawP t.fs x.x cs ++ bhP t x cs] := by
      unfold listsP
      rw [hel, List.filterMap_cons, List.filterMap_nil]
      unfold oneL
      rw [show lackB t.tb.fs x.x cs ⟨#[]⟩ = false from hlk, if_neg (by simp), show ownP t.tb.fs x.x cs ⟨#[]⟩ = lawP t.fs x.x cs from lawP_own h.kind h.no _]
      rfl
    rw [if_neg hw, hls]
    rw [hls] at h0
    split at h0
    · simp at h0
    · next hb =>
      rw [if_neg hb]
      have hbb : badB (lawP t.fs x.x cs ++ bhP t x cs) = false := by simpa using hb
      have he : (encAns false (lawP t.fs x.x cs ++ bhP t x cs)).2 = 0 := by
        unfold badB at hbb
        simpa using hbb
      have h2 : encAns false (lawP t.fs x.x cs ++ bhP t x cs) = (enc false (lawP t.fs x.x cs ++ bhP t x cs), 0) ∧ (enc false (lawP t.fs x.x cs ++ bhP t x cs)).length ≤ 1024 := by
        unfold encAns at he ⊢
        split at he
        · next h1 =>
          split at he
          · next h3 => rw [if_pos h1, if_pos h3]; exact ⟨rfl, h3⟩
          · simp at he
        · simp at he
      refine ⟨?_, h2.2⟩
      unfold sortedK
      rw [compact_putAll, List.map_cons, List.map_nil, putAll_one]
      unfold keyOf
      rw [h2.1]
theorem kindsB_law {fs : List Fd} {l : Bool} {cs : List CV} : ∀ ov : List Int, KindOk fs ov → noList fs ov → kindsB fs ov (ov.map (partL fs l cs)) = true
  | [], _, _ => rfl
  | p :: ov, hk, hn => by
    have ih := kindsB_law (l := l) (cs := cs) ov (fun q hq => hk q (List.mem_cons_of_mem _ hq)) (fun q hq => hn q (List.mem_cons_of_mem _ hq))
    rw [List.map_cons]
    show (((partL fs l cs p).k == partK (fs.getD p.toNat noF).k) && kindsB fs ov (ov.map (partL fs l cs))) = true
    rw [ih, Bool.and_true]
    unfold partL
    rcases hk p (List.mem_cons_self ..) with h | h | h
    · rw [h, if_neg (by decide)]; rfl
    · rw [h, if_pos rfl]; rfl
    · exact absurd h (hn p (List.mem_cons_self ..))
theorem FOk.probe {t : TV} {x : XV} {cs : List CV} (h : FOk t x cs) {i : Nat} (hi : t.xs[i]? = some x) : probeP t.tb i (lawP t.fs x.x cs) false = (enc false (lawP t.fs x.x cs), 0) := by
  have hil : i < t.xs.length := (List.getElem?_eq_some_iff.1 hi).1
  have hg : t.tb.xs.getD (i : Int).toNat noX = x.x := by
    rw [show ((i : Int).toNat) = i from rfl, List.getD_eq_getElem?_getD]
    show ((t.xs.map (·.x))[i]?).getD noX = _
    rw [List.getElem?_map, hi]; rfl
  have hp : placeB t.tb i = true := by
    unfold placeB
    have : t.tb.xs.length = t.xs.length := by simp [TV.tb]
    rw [this]
    simp only [Bool.and_eq_true, decide_eq_true_eq]
    omega
  have hv : (lawP t.fs x.x cs).all vldB = true := List.all_eq_true.2 fun q hq => plain_vld (lawP_plain h.ok h.no h.wf q hq).1
  have hl : (enc false (lawP t.fs x.x cs)).length ≤ 1024 := by
    have := h.index.2
    rw [enc_fappend, List.length_append] at this
    omega
  have he : encAns false (lawP t.fs x.x cs) = (enc false (lawP t.fs x.x cs), 0) := by
    unfold encAns
    rw [if_pos hv, if_pos hl]
  unfold probeP
  rw [hp, hg, if_neg (by simp), if_neg ?_, lawP_low, he]
  · rfl
  · unfold canB
    rw [lawP_len, hv]
    have hk := kindsB_law (l := x.x.l) (cs := cs) x.x.ov h.kind h.no
    rw [show kindsB t.tb.fs x.x.ov (lawP t.fs x.x cs) = true from hk]
    simp
theorem FOk.keys {t : TV} {x : XV} {cs : List CV} (h : FOk t x cs) {i : Nat} (hi : t.xs[i]? = some x) : keysP t.tb i cs = ([enc false (lawP t.fs x.x cs ++ bhP t x cs)], 0) := by
  have hil : i < t.xs.length := (List.getElem?_eq_some_iff.1 hi).1
  have hg : t.tb.xs.getD (i : Int).toNat noX = x.x := by
    rw [show ((i : Int).toNat) = i from rfl, List.getD_eq_getElem?_getD]
    show ((t.xs.map (·.x))[i]?).getD noX = _
    rw [List.getElem?_map, hi]; rfl
  have hp : placeB t.tb i = true := by
    unfold placeB
    have : t.tb.xs.length = t.xs.length := by simp [TV.tb]
    rw [this]
    simp only [Bool.and_eq_true, decide_eq_true_eq]
    omega
  unfold keysP
  rw [hp, if_neg (by simp), if_neg (by rw [h.fit]; simp), hg]
  exact h.index.1
theorem FOk.starts {t : TV} {x : XV} {cs ds : List CV} (h : FOk t x cs) (g : FOk t x ds) (hbp : ∀ q ∈ bhP t x ds, Plain q ∧ q.wf) : startsB (enc false (lawP t.fs x.x ds ++ bhP t x ds)) (enc false (lawP t.fs x.x cs)) = sameB (lawP t.fs x.x cs) (lawP t.fs x.x ds) := by
  have h1 := starts_enc (lawP_plain g.ok g.no g.wf) hbp (lawP_plain h.ok h.no h.wf) (by rw [lawP_len, lawP_len])
  rw [Bool.eq_iff_iff, h1, sameB_iff]
  exact ⟨Eq.symm, Eq.symm⟩
theorem FOk.uniq {t : TV} {x : XV} {cs ds : List CV} (h : FOk t x cs) (g : FOk t x ds) (hu : x.x.u = true) : decide (enc false (lawP t.fs x.x cs ++ bhP t x cs) = enc false (lawP t.fs x.x ds ++ bhP t x ds)) = sameB (lawP t.fs x.x cs) (lawP t.fs x.x ds) := by
  have hb : ∀ es, bhP t x es = [] := fun es => by unfold bhP behindP; rw [hu]; rfl
  rw [hb, hb, List.append_nil, List.append_nil, Bool.eq_iff_iff, decide_eq_true_eq, sameB_iff]
  exact ⟨enc_inj (lawP_plain h.ok h.no h.wf) (lawP_plain g.ok g.no g.wf), fun e => by rw [e]⟩
end Go.Proofs.YtgjcchafmcccjaaGreatDoor
