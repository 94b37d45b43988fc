/- Layer 7 (rows): RowsLists: its table, its keys, in plain words. -/
import Derived.Test.YtgjcchafmcccjaaGreatDoorRwSame
import Derived.Test.YtgjcchafmcccjaaGreatDoorRwPre
import Derived.Test.YtgjcchafmcccjaaGreatDoorRwOne
namespace Go.Proofs.YtgjcchafmcccjaaGreatDoor
open Go.RowKit
set_option linter.unusedVariables false

def lstT : Bool → ByteArray
  | false => ⟨#[116, 97, 98, 108, 101, 32, 113, 10, 102, 105, 101, 108, 100, 32, 97, 32, 116, 101, 120, 116, 10, 102, 105, 101, 108, 100, 32, 108, 32, 108, 105, 115, 116, 10, 105, 110, 100, 101, 120, 32, 105, 100, 32, 97, 32, 117, 110, 105, 113, 117, 101, 10, 105, 110, 100, 101, 120, 32, 116, 97, 103, 32, 108, 32, 108, 111, 111, 115, 101]⟩
  | true => ⟨#[116, 97, 98, 108, 101, 32, 113, 10, 102, 105, 101, 108, 100, 32, 97, 32, 116, 101, 120, 116, 10, 102, 105, 101, 108, 100, 32, 108, 32, 108, 105, 115, 116, 10, 105, 110, 100, 101, 120, 32, 105, 100, 32, 97, 32, 117, 110, 105, 113, 117, 101, 10, 105, 110, 100, 101, 120, 32, 116, 97, 103, 32, 108, 32, 108, 111, 119, 101, 114, 32, 108, 111, 111, 115, 101]⟩
def lstX0 : Ix := ⟨idW, [0], true, false, false⟩
def lstX (b : Bool) : Ix := ⟨⟨#[116, 97, 103]⟩, [1], false, b, true⟩
def lstFs : List Fd := [⟨⟨#[97]⟩, 1⟩, ⟨⟨#[108]⟩, 3⟩]
def lstTb (b : Bool) : Tb := ⟨⟨#[113]⟩, lstFs, [lstX0, lstX b]⟩
set_option maxRecDepth 100000 in
theorem lst_parse (b : Bool) : parseP (lstT b) = .ok [lstTb b] := by cases b <;> kernel_rfl
def lstN : ByteArray := ⟨#[110]⟩
def lstCs (l : List ByteArray) (la : Option Addr) (lc : Nat) : List CV := [⟨lstN, 0, [], none, 0⟩, ⟨⟨#[]⟩, 0, l, la, lc⟩]
/-- The key of one element. -/
def kF (u : ByteArray) : Bs := enc false [⟨1, u, 0⟩, ⟨1, lstN, 0⟩]
def elsN (b : Bool) (l : List ByteArray) : List ByteArray := (l.map (lowIfS b)).filter fun e => !e.toList.isEmpty
theorem vld_text (u : ByteArray) : vldB ⟨1, u, 0⟩ = true := rfl
theorem pl_text {u : ByteArray} (h : u.size ≤ 140737488351232) : Plain ⟨1, u, 0⟩ ∧ (⟨1, u, 0⟩ : Pt).wf := ⟨.inl ⟨rfl, rfl⟩, ⟨show (-9223372036854775808 : Int) ≤ 1 by decide, show (1 : Int) ≤ 9223372036854775807 by decide⟩, ⟨show (0 : Int) ≤ 0 by decide, show (0 : Int) ≤ 18446744073709551615 by decide⟩, h⟩
theorem pl_n : Plain ⟨1, lstN, 0⟩ ∧ (⟨1, lstN, 0⟩ : Pt).wf := pl_text (by decide)
theorem enc1_len {u : ByteArray} (h : u.size ≤ 400) : (enc false [⟨1, u, 0⟩]).length ≤ 809 := by
  rw [enc_fcons, List.length_append]
  have := piece_length ⟨1, u, 0⟩ false
  dsimp only at this
  show _ + 0 ≤ _
  omega
theorem kF_len {u : ByteArray} (h : u.size ≤ 400) : (kF u).length ≤ 820 := by
  unfold kF
  rw [enc_fcons, enc_fcons, List.length_append, List.length_append]
  have h1 := piece_length ⟨1, u, 0⟩ false
  have h2 := piece_length ⟨1, lstN, 0⟩ false
  have h3 : lstN.size = 1 := rfl
  dsimp only at h1 h2
  show _ + (_ + 0) ≤ _
  omega
theorem kF_starts {u v : ByteArray} (hu : u.size ≤ 400) (hv : v.size ≤ 400) : startsB (kF v) (enc false [⟨1, u, 0⟩]) = decide (v = u) := by
  have h1 := starts_enc (ps := [⟨1, v, 0⟩]) (qs := [⟨1, u, 0⟩]) (bh := [⟨1, lstN, 0⟩]) (fun p hp => by simp only [List.mem_singleton] at hp; subst hp; exact pl_text (by omega)) (fun p hp => by simp only [List.mem_singleton] at hp; subst hp; exact pl_n) (fun p hp => by simp only [List.mem_singleton] at hp; subst hp; exact pl_text (by omega)) rfl
  rw [Bool.eq_iff_iff, decide_eq_true_eq]
  refine Iff.trans h1 ?_
  constructor
  · intro h
    simpa using h
  · rintro rfl; rfl
theorem kF_inj {u v : ByteArray} (hu : u.size ≤ 400) (hv : v.size ≤ 400) (h : kF u = kF v) : u = v := by
  have := enc_inj (ps := [⟨1, u, 0⟩, ⟨1, lstN, 0⟩]) (qs := [⟨1, v, 0⟩, ⟨1, lstN, 0⟩]) (fun p hp => by rcases List.mem_cons.1 hp with rfl | hp; exact pl_text (by omega); simp only [List.mem_singleton] at hp; subst hp; exact pl_n) (fun p hp => by rcases List.mem_cons.1 hp with rfl | hp; exact pl_text (by omega); simp only [List.mem_singleton] at hp; subst hp; exact pl_n) h
  simpa using this
/-! the row's keys -/
theorem lst_elems (b : Bool) (l : List ByteArray) (la : Option Addr) (lc : Nat) : elemsOf lstFs [1] (lstCs l la lc) = l := rfl
theorem lst_own (b : Bool) (l : List ByteArray) (la : Option Addr) (lc : Nat) (e : ByteArray) : ownP lstFs (lstX b) (lstCs l la lc) e = [⟨1, lowIfS b e, 0⟩] := by cases b <;> rfl
theorem lst_behind (b : Bool) (l : List ByteArray) (la : Option Addr) (lc : Nat) : behindP (lstTb b) (lstX b) (lstCs l la lc) = [⟨1, lstN, 0⟩] := rfl
theorem lowIfS_empty (b : Bool) (e : ByteArray) : (lowIfS b e).toList.isEmpty = e.toList.isEmpty := by cases b; rfl; exact lowS_isEmpty e
theorem lowIfS_size (b : Bool) (e : ByteArray) : (lowIfS b e).size = e.size := by cases b; rfl; exact lowS_size e
theorem lowIfS_low (b : Bool) (e : ByteArray) : lowIfS b (lowIfS b e) = lowIfS b e := by cases b; rfl; exact lowS_low e
theorem lst_lack (b : Bool) (l : List ByteArray) (la : Option Addr) (lc : Nat) (e : ByteArray) : lackB lstFs (lstX b) (lstCs l la lc) e = (lowIfS b e).toList.isEmpty := by
  unfold lackB
  rw [lst_own]
  have he : (⟨#[]⟩ : ByteArray).toList = [] := by rw [ByteArray.toList_eq]
  simp only [List.any_cons, List.any_nil, Bool.or_false, ptEq, emptyQ, he, beq_nil_isEmpty]
  simp
theorem lst_map (b : Bool) (cs : List CV) (bh : List Pt) (ho : ∀ e, ownP lstFs (lstX b) cs e = [⟨1, lowIfS b e, 0⟩]) (hl : ∀ e, lackB lstFs (lstX b) cs e = (lowIfS b e).toList.isEmpty) : ∀ m : List ByteArray, m.filterMap (oneL lstFs (lstX b) cs bh) = (elsN b m).map fun u => [⟨1, u, 0⟩] ++ bh
  | [] => rfl
  | e :: m => by
    have ih := lst_map b cs bh ho hl m
    unfold elsN at ih ⊢
    rw [List.filterMap_cons, List.map_cons]
    unfold oneL
    rw [hl]
    cases h : (lowIfS b e).toList.isEmpty with
    | true =>
      rw [if_pos rfl, List.filter_cons_of_neg (by simp [h])]
      exact ih
    | false =>
      rw [if_neg (by simp), List.filter_cons_of_pos (by simp [h]), List.map_cons, ho]
      exact congrArg _ ih
theorem lst_lists (b : Bool) (l : List ByteArray) (la : Option Addr) (lc : Nat) : listsP (lstTb b) (lstX b) (lstCs l la lc) = (elsN b l).map fun u => [⟨1, u, 0⟩, ⟨1, lstN, 0⟩] := by
  unfold listsP
  rw [lst_behind]
  exact lst_map b (lstCs l la lc) [⟨1, lstN, 0⟩] (lst_own b l la lc) (lst_lack b l la lc) l
def Small400 (b : Bool) (l : List ByteArray) : Prop := ∀ e ∈ l, (lowIfS b e).size ≤ 400
theorem elsN_small {b : Bool} {l : List ByteArray} (h : Small400 b l) : ∀ u ∈ elsN b l, u.size ≤ 400 := by
  intro u hu
  unfold elsN at hu
  obtain ⟨e, he, rfl⟩ := List.mem_map.1 (List.mem_filter.1 hu).1
  exact h e he
theorem kF_enc {u : ByteArray} (h : u.size ≤ 400) : encAns false [⟨1, u, 0⟩, ⟨1, lstN, 0⟩] = (kF u, 0) := by
  unfold encAns
  rw [if_pos (by rfl)]
  have := kF_len h
  unfold kF at this ⊢
  rw [if_pos (by omega)]
theorem lst_index {b : Bool} {l : List ByteArray} (h : Small400 b l) (la : Option Addr) (lc : Nat) : indexP (lstTb b) (lstX b) (lstCs l la lc) = (putAll ((elsN b l).map kF), 0) := by
  unfold indexP
  rw [if_neg (by intro hh; exact absurd hh.2 (by simp [lstX])), lst_lists, if_neg ?_]
  · unfold sortedK
    rw [compact_putAll, List.map_map]
    congr 2
    apply List.map_congr_left
    intro u hu
    show (encAns false [⟨1, u, 0⟩, ⟨1, lstN, 0⟩]).1 = _
    rw [kF_enc (elsN_small h u hu)]
  · simp only [Bool.not_eq_true, List.any_eq_false]
    intro ps hps
    obtain ⟨u, hu, rfl⟩ := List.mem_map.1 hps
    unfold badB
    rw [kF_enc (elsN_small h u hu)]
    simp
theorem lst_index0 (b : Bool) (l : List ByteArray) (la : Option Addr) (lc : Nat) : (indexP (lstTb b) lstX0 (lstCs l la lc)).2 = 0 := by
  have h1 : wholeB (lstTb b) lstX0 (lstCs l la lc) = true := by cases b <;> kernel_rfl
  have h2 : listsP (lstTb b) lstX0 (lstCs l la lc) = [[⟨1, lstN, 0⟩]] := by cases b <;> kernel_rfl
  have h3 : badB [⟨1, lstN, 0⟩] = false := by kernel_rfl
  unfold indexP
  rw [h1, if_neg (by simp), h2, if_neg (by simp [h3])]
theorem lst_fit {b : Bool} {l : List ByteArray} (h : Small400 b l) (hl : l.length ≤ 32) (la : Option Addr) (lc : Nat) : fitP (lstTb b) (lstCs l la lc) = 0 := by
  have hc : fitC lstFs (lstCs l la lc) = 0 := by
    unfold fitC
    rw [if_neg (by simp [lstCs, lstFs])]
    unfold lstFs lstCs fitL
    rw [if_neg (by decide), if_neg (by decide)]
    unfold fitL
    have hu : usesB 3 ⟨⟨#[]⟩, 0, l, la, lc⟩ = true := by
      have he : (⟨#[]⟩ : ByteArray).toList = [] := by rw [ByteArray.toList_eq]
      simp [usesB, he]
    rw [if_neg (by rw [hu]; decide), if_neg (by dsimp only; omega)]
    rfl
  unfold fitP
  rw [if_neg (by rw [show (lstTb b).fs = lstFs from rfl, hc]; simp)]
  show fitX (lstTb b) _ [lstX0, lstX b] = 0
  unfold fitX
  rw [if_neg (by rw [lst_index0]; simp)]
  unfold fitX
  rw [if_neg (by rw [lst_index h]; simp)]
  rfl
theorem lst_keys {b : Bool} {l : List ByteArray} (h : Small400 b l) (hl : l.length ≤ 32) (la : Option Addr) (lc : Nat) : keysP (lstTb b) 1 (lstCs l la lc) = (putAll ((elsN b l).map kF), 0) := by
  unfold keysP
  rw [if_neg (by cases b <;> decide), if_neg (by rw [lst_fit h hl]; simp)]
  exact lst_index h la lc
/-! the unlike elements -/
def uqStep (us : List ByteArray) (s : ByteArray) : List ByteArray := if (s.toList.isEmpty || us.any fun u => decide (u = s)) = true then us else us ++ [s]
theorem uq_fold (es : List ByteArray) : ∀ us : List ByteArray, us.Nodup → (es.foldl uqStep us).Nodup ∧ ∀ u, u ∈ es.foldl uqStep us ↔ u ∈ us ∨ u ∈ es ∧ u.toList.isEmpty = false := by
  induction es with
  | nil => intro us h; exact ⟨h, fun u => by simp⟩
  | cons e es ih =>
    intro us h
    rw [List.foldl_cons]
    by_cases hs : (e.toList.isEmpty || us.any fun u => decide (u = e)) = true
    · have hst : uqStep us e = us := by unfold uqStep; rw [if_pos hs]
      rw [hst]
      obtain ⟨h1, h2⟩ := ih us h
      refine ⟨h1, fun u => ?_⟩
      rw [h2]
      constructor
      · rintro (h | h)
        · exact .inl h
        · exact .inr ⟨List.mem_cons_of_mem _ h.1, h.2⟩
      · rintro (h | ⟨h, hn⟩)
        · exact .inl h
        · rcases List.mem_cons.1 h with rfl | h
          · left
            rw [hn, Bool.false_or, List.any_eq_true] at hs
            obtain ⟨x, hx, he⟩ := hs
            rw [decide_eq_true_eq] at he
            subst he
            exact hx
          · exact .inr ⟨h, hn⟩
    · have hst : uqStep us e = us ++ [e] := by unfold uqStep; rw [if_neg hs]
      rw [Bool.not_eq_true, Bool.or_eq_false_iff] at hs
      have hne : e ∉ us := fun hm => by
        have := hs.2
        rw [List.any_eq_false] at this
        exact this e hm (by simp)
      rw [hst]
      obtain ⟨h1, h2⟩ := ih (us ++ [e]) (by
        rw [List.nodup_append]
        refine ⟨h, by simp, fun a ha c hc => ?_⟩
        simp only [List.mem_singleton] at hc
        subst hc
        exact fun he => hne (he ▸ ha))
      refine ⟨h1, fun u => ?_⟩
      rw [h2, List.mem_append, List.mem_singleton, List.mem_cons]
      constructor
      · rintro ((h | rfl) | h)
        · exact .inl h
        · exact .inr ⟨.inl rfl, hs.1⟩
        · exact .inr ⟨.inr h.1, h.2⟩
      · rintro (h | ⟨rfl | h, hn⟩)
        · exact .inl (.inl h)
        · exact .inl (.inr rfl)
        · exact .inr ⟨h, hn⟩
def uqL (es : List ByteArray) : List ByteArray := es.foldl uqStep []
theorem uqL_nodup (es : List ByteArray) : (uqL es).Nodup := (uq_fold es [] List.nodup_nil).1
theorem uqL_mem (b : Bool) (l : List ByteArray) (u : ByteArray) : u ∈ uqL (l.map (lowIfS b)) ↔ u ∈ elsN b l := by
  unfold uqL elsN
  rw [(uq_fold _ [] List.nodup_nil).2, List.mem_filter]
  simp
theorem uqL_snoc (es : List ByteArray) (e : ByteArray) : uqL (es ++ [e]) = uqStep (uqL es) e := by unfold uqL; rw [List.foldl_append]; rfl
def keysL (b : Bool) (l : List ByteArray) : List Bs := putAll ((elsN b l).map kF)
theorem keysL_mem {b : Bool} {l : List ByteArray} (x : Bs) : x ∈ keysL b l ↔ ∃ u ∈ uqL (l.map (lowIfS b)), x = kF u := by
  unfold keysL
  rw [putAll_mem, List.mem_map]
  constructor
  · rintro ⟨u, hu, rfl⟩; exact ⟨u, (uqL_mem b l u).2 hu, rfl⟩
  · rintro ⟨u, hu, rfl⟩; exact ⟨u, (uqL_mem b l u).1 hu, rfl⟩
theorem keysL_nodup (b : Bool) (l : List ByteArray) : (keysL b l).Nodup := (putAll_rising _).imp fun h e => by subst e; exact List.lt_irrefl _ h
theorem uq_small {b : Bool} {l : List ByteArray} (h : Small400 b l) : ∀ u ∈ uqL (l.map (lowIfS b)), u.size ≤ 400 := fun u hu => elsN_small h u ((uqL_mem b l u).1 hu)
theorem nodup_map_kF : ∀ us : List ByteArray, us.Nodup → (∀ u ∈ us, u.size ≤ 400) → (us.map kF).Nodup
  | [], _, _ => List.nodup_nil
  | u :: us, hn, hs => by
    rw [List.nodup_cons] at hn
    rw [List.map_cons, List.nodup_cons]
    refine ⟨fun hm => ?_, nodup_map_kF us hn.2 fun v hv => hs v (List.mem_cons_of_mem _ hv)⟩
    obtain ⟨v, hv, he⟩ := List.mem_map.1 hm
    have := kF_inj (hs v (List.mem_cons_of_mem _ hv)) (hs u (List.mem_cons_self ..)) he
    subst this
    exact hn.1 hv
theorem keysL_len {b : Bool} {l : List ByteArray} (h : Small400 b l) : (keysL b l).length = (uqL (l.map (lowIfS b))).length := by
  have hp : (keysL b l).Perm ((uqL (l.map (lowIfS b))).map kF) := (List.perm_ext_iff_of_nodup (keysL_nodup b l) (nodup_map_kF _ (uqL_nodup _) (uq_small h))).2 fun x => by
    rw [keysL_mem, List.mem_map]
    constructor
    · rintro ⟨u, hu, rfl⟩; exact ⟨u, hu, rfl⟩
    · rintro ⟨u, hu, rfl⟩; exact ⟨u, hu, rfl⟩
  have := hp.length_eq
  simpa using this
theorem filter_one {α : Type} {P : α → Bool} {a : α} : ∀ l : List α, l.Nodup → a ∈ l → (∀ x ∈ l, P x = true ↔ x = a) → (l.filter P).length = 1
  | [], _, h, _ => by simp at h
  | x :: l, hn, hm, hp => by
    rw [List.nodup_cons] at hn
    by_cases hx : x = a
    · have h1 : P x = true := (hp x (List.mem_cons_self ..)).2 hx
      have h2 : l.filter P = [] := by
        rw [List.filter_eq_nil_iff]
        intro y hy hP
        have := (hp y (List.mem_cons_of_mem _ hy)).1 hP
        rw [this, ← hx] at hy
        exact hn.1 hy
      rw [List.filter_cons_of_pos h1, h2]; rfl
    · have h1 : ¬ P x = true := fun h => hx ((hp x (List.mem_cons_self ..)).1 h)
      rw [List.filter_cons_of_neg h1]
      rcases List.mem_cons.1 hm with h | h
      · exact absurd h.symm hx
      · exact filter_one l hn.2 h fun y hy => hp y (List.mem_cons_of_mem _ hy)
theorem hits_one {b : Bool} {l : List ByteArray} (h : Small400 b l) {u : ByteArray} (hu : u ∈ uqL (l.map (lowIfS b))) : ((keysL b l).filter fun x => startsB x (enc false [⟨1, u, 0⟩])).length = 1 := by
  refine filter_one (a := kF u) _ (keysL_nodup b l) ((keysL_mem _).2 ⟨u, hu, rfl⟩) fun x hx => ?_
  obtain ⟨v, hv, rfl⟩ := (keysL_mem x).1 hx
  rw [kF_starts (uq_small h u hu) (uq_small h v hv), decide_eq_true_eq]
  constructor
  · rintro rfl; rfl
  · exact kF_inj (uq_small h v hv) (uq_small h u hu)
theorem keysL_le (b : Bool) (l : List ByteArray) (h : Small400 b l) : ∀ x ∈ keysL b l, x.length ≤ 820 := by
  intro x hx
  obtain ⟨v, hv, rfl⟩ := (keysL_mem x).1 hx
  exact kF_len (uq_small h v hv)
theorem keysL_less (b : Bool) (l : List ByteArray) (j : Nat) (hj : j + 1 < (keysL b l).length) : (keysL b l)[j] < (keysL b l)[j + 1] := List.pairwise_iff_getElem.1 (putAll_rising ((elsN b l).map kF)) j (j + 1) _ _ (Nat.lt_succ_self j)
theorem uq_low {b : Bool} {l : List ByteArray} {u : ByteArray} (hu : u ∈ uqL (l.map (lowIfS b))) : lowIfS b u = u := by
  have := (uqL_mem b l u).1 hu
  unfold elsN at this
  obtain ⟨e, _, rfl⟩ := List.mem_map.1 (List.mem_filter.1 this).1
  exact lowIfS_low b e
theorem lst_probe {b : Bool} {u : ByteArray} (hu : u.size ≤ 400) (hl : lowIfS b u = u) : probeP (lstTb b) 1 [⟨1, u, 0⟩] false = (enc false [⟨1, u, 0⟩], 0) := by
  have h1 : encAns false [⟨1, u, 0⟩] = (enc false [⟨1, u, 0⟩], 0) := by
    unfold encAns
    rw [if_pos (by rfl)]
    have := enc1_len hu
    rw [if_pos (by omega)]
  have h2 : (if ((lstTb b).xs.getD (1 : Int).toNat noX).l = true then [(⟨1, u, 0⟩ : Pt)].map lowPt else [⟨1, u, 0⟩]) = [⟨1, u, 0⟩] := by
    cases b
    · rfl
    · show [lowPt ⟨1, u, 0⟩] = _
      unfold lowPt
      rw [show lowS u = u from hl]
  unfold probeP
  rw [if_neg (by cases b <;> decide), if_neg (by cases b <;> simp [canB, kindsB, lstTb, lstX, lstX0, lstFs, partK, vldB]), h2, h1]
  rfl
end Go.Proofs.YtgjcchafmcccjaaGreatDoor
