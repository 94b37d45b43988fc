/- A region that draws its order, walked by what each operation leaves, where operations may write old memory: a word on the world hangs on which operations are done. -/
import Derived.Test.YtelhgjepjieocaaDoorRgInv
namespace Go.Proofs.YtelhgjepjieocaaDoor
open Go.RowKit

def Region.invJB (ops : Array Oper) (n : Nat) : Bool :=
  decide (n < ops.size) && Region.sinkB .any ops n && Region.chainB .any ops n &&
  ((List.range ops.size).all fun j => match ops[j]? with | some o => (o.after.toList.all fun e => !Region.binds .any e || decide (e.on < j)) | none => false) &&
  ((List.range n).all fun i => (List.range n).all fun j => decide (i = j) || decide (dstAt ops i = none) || !decide (dstAt ops i = dstAt ops j)) &&
  Region.seqB .any ops (ops.size - n) n ((List.replicate n true ++ List.replicate (ops.size - n) false).toArray)
theorem eval_unlisted {ops : Array Oper} {vs : Nat → Value} {ls : Nat → Bool} {k : Tmp} : ∀ (l : List Nat) (a : Act), (∀ j ∈ l, dstAt ops j = some k → ls j = false) → (putOps ops vs ls l a).eval (.tmp k) = a.eval (.tmp k)
  | [], _, _ => rfl
  | j :: l, a, h => by
    rw [putOps, eval_unlisted l _ fun i hi => h i (List.mem_cons_of_mem _ hi)]
    split
    · rename_i hl
      cases hd : dstAt ops j with
      | none => rfl
      | some d =>
        have : d ≠ k := fun e => by
          have := h j (List.mem_cons_self ..) (by rw [hd, e])
          rw [hl] at this
          cases this
        simp only [Act.put, Act.eval]
        rw [Array.getD_eq_getD_getElem?, Array.getD_eq_getD_getElem?, Array.getElem?_setIfInBounds_ne this]
    · rfl
section
variable {P : Program} {ops : Array Oper} {n : Nat} {a0 : Act} {J : (Nat → Bool) → World → Prop} {R : Nat → Value → World → Prop} {Q : Exit → Act → World → Prop}

theorem wp_region_J_any (hn : n < ops.size) (hs : Region.sinkB .any ops n = true) (hc : Region.chainB .any ops n = true)
    (hback : ∀ (j : Nat) (o : Oper), ops[j]? = some o → ∀ e ∈ o.after, Region.binds .any e = true → e.on < j) (hap : ∀ i, i < n → ∀ j, j < n → j ≠ i → ∀ d, dstAt ops j = some d → dstAt ops i ≠ some d)
    (hseq : Region.seqB .any ops (ops.size - n) n ((List.replicate n true ++ List.replicate (ops.size - n) false).toArray) = true)
    (hop : ∀ i o, i < n → ops[i]? = some o → ∀ vs (ls : Nat → Bool) w, J ls w → (∀ j, j < n → ls j = true → R j (vs j) w) → (∀ e ∈ o.after, Region.binds .any e = true → ls e.on = true) → ls i = false → (∀ j oj, ops[j]? = some oj → ls j = true → ∀ e ∈ oj.after, Region.binds .any e = true → ls e.on = true) →
      Region.wanted o (yielded ops (putOps ops vs ls (List.range n) a0).tmps) = true ∧ o.wp P (putOps ops vs ls (List.range n) a0) w (fun a' w' => ∃ v, a' = (putOps ops vs ls (List.range n) a0).put o.dst v ∧ R i v w' ∧ J (updB ls i) w' ∧ (∀ j u, j < n → ls j = true → R j u w → R j u w')) Q)
    (h : ∀ vs w (ls : Nat → Bool), (∀ i, i < n → ls i = true) → J ls w → (∀ i, i < n → R i (vs i) w) → wpList P ops Q (ops.toList.drop n) (putOps ops vs (fun _ => true) (List.range n) a0) w) :
    ∀ (f : Nat) (listed : Array Bool) (vs : Nat → Value) (w : World), HeadInv .any ops n listed → (List.range n).countP (fun i => !listed.getD i false) = f → J (fun i => listed.getD i false) w → (∀ j, j < n → listed.getD j false = true → R j (vs j) w) →
      wpAny P .any ops Q (f + (ops.size - n)) listed (putOps ops vs (fun i => listed.getD i false) (List.range n) a0) w := by
  intro f
  induction f with
  | zero =>
    intro listed vs w inv hcnt hB hR
    have hall : ∀ i, i < n → listed.getD i false = true := fun i hi => by
      have := List.countP_eq_zero.1 hcnt i (List.mem_range.2 hi)
      simpa using this
    have hl : listed = ((List.replicate n true ++ List.replicate (ops.size - n) false).toArray) := by
      apply Array.ext_getElem?
      intro k
      rcases Nat.lt_or_ge k ops.size with hk | hk
      · have hks : k < listed.size := by rw [inv.size]; exact hk
        by_cases hkn : k < n
        · have h1 := hall k hkn
          simp [hks] at h1
          simp [hks, h1, List.getElem?_append, hkn]
        · have h1 := inv.tail k (by omega) hk
          simp [hks] at h1
          have h2 : ((List.replicate n true ++ List.replicate (ops.size - n) false).toArray)[k]? = some false := by
            simp [List.getElem?_append, hkn, List.getElem?_replicate]
            omega
          rw [h2]
          simp [hks, h1]
      · rw [Array.getElem?_eq_none (by rw [inv.size]; exact hk), Array.getElem?_eq_none (by simp; omega)]
    have hput : putOps ops vs (fun i => listed.getD i false) (List.range n) a0 = putOps ops vs (fun _ => true) (List.range n) a0 :=
      putOps_congr _ _ fun j hj => ⟨rfl, hall j (List.mem_range.1 hj)⟩
    rw [hput, Nat.zero_add]
    have hlen : (ops.toList.drop n).length = ops.size - n := by simp
    have := wpAny_of_seq (md := .any) (Q' := Q) (ops.toList.drop n) n listed (putOps ops vs (fun _ => true) (List.range n) a0) w (fun j => by simp [List.getElem?_drop]) (by rw [hlen, hl]; exact hseq) (h vs w _ hall hB (fun i hi => hR i hi (hall i hi)))
    rwa [hlen] at this
  | succ f ih =>
    intro listed vs w inv hcnt hB hR
    -- one that is not listed yet, the least
    have hex : ∃ i, i < n ∧ listed.getD i false = false := by
      have : 0 < (List.range n).countP (fun i => !listed.getD i false) := by omega
      obtain ⟨i, hi, hb⟩ := List.countP_pos_iff.1 this
      exact ⟨i, List.mem_range.1 hi, by simpa using hb⟩
    have hleast : ∃ i, i < n ∧ listed.getD i false = false ∧ ∀ j, j < i → listed.getD j false = true := by
      obtain ⟨i, hi, hl⟩ := hex
      induction i using Nat.strongRecOn with
      | _ i ihh =>
        by_cases hall : ∀ j, j < i → listed.getD j false = true
        · exact ⟨i, hi, hl, hall⟩
        · obtain ⟨j, hj⟩ := Classical.not_forall.1 hall
          obtain ⟨hji, hjl⟩ := Classical.not_imp.1 hj
          exact ihh j hji (by omega) (by simpa using hjl)
    obtain ⟨i0, hi0, hl0, hall0⟩ := hleast
    have hi0s : i0 < ops.size := by omega
    have hr0 : i0 ∈ Region.ready .any ops listed := mem_ready.2 ⟨getD_in (by rw [inv.size]; exact hi0s) hl0, ops[i0], by simp [hi0s], fun e he hb => hall0 _ (hback i0 ops[i0] (by simp [hi0s]) e he hb)⟩
    rw [show f + 1 + (ops.size - n) = (f + (ops.size - n)) + 1 by omega]
    refine ⟨fun he => (by rw [he] at hr0; cases hr0), fun i hi => ?_⟩
    have hin : i < n := by
      rcases Nat.lt_or_ge i n with hh | hh
      · exact hh
      · exact absurd hi (tail_waits hs hc hn inv _ i0 rfl hi0 (getD_in (by rw [inv.size]; exact hi0s) hl0) i hh)
    obtain ⟨hun, o, ho, hdep⟩ := mem_ready.1 hi
    have hlf : listed.getD i false = false := getD_both hun
    obtain ⟨hwant, hwp⟩ := hop i o hin ho vs (fun k => listed.getD k false) w hB hR hdep hlf inv.closed
    unfold wpOp
    simp only [ho, hwant, if_true]
    refine .inl (Oper.wp_mono ?_ hwp)
    · rintro a' w' ⟨v, rfl, hv, hb, hkeep⟩
      have hdst : o.dst = dstAt ops i := by simp [dstAt, ho]
      rw [hdst, putOps_in (List.range n) a0 List.nodup_range (List.mem_range.2 hin) hlf fun j hj hji d hd => hap i hin j (List.mem_range.1 hj) hji d hd]
      have hsz : i < listed.size := by rw [inv.size]; omega
      have hset : ∀ k, (listed.setIfInBounds i true).getD k false = updB (fun k => listed.getD k false) i k := fun k => by
        by_cases hk : k = i
        · subst hk; simp [updB, hsz]
        · simp [updB, hk, Array.getElem?_setIfInBounds_ne (Ne.symm hk)]
      have := ih (listed.setIfInBounds i true) (updV vs i v) w' (inv.set hi hin) (by
        have hcu := count_upd (List.range n) (fun k => !listed.getD k false) (fun k => !(listed.setIfInBounds i true).getD k false) i List.nodup_range (List.mem_range.2 hin) (by show (!listed.getD i false) = true; rw [hlf]; rfl) (by show (!(listed.setIfInBounds i true).getD i false) = false; rw [hset]; simp [updB]) (fun j hj => by show (!(listed.setIfInBounds i true).getD j false) = (!listed.getD j false); rw [hset]; simp [updB, hj])
        omega) (by rw [show (fun k => (listed.setIfInBounds i true).getD k false) = updB (fun k => listed.getD k false) i from funext hset]; exact hb) (fun j hj hl => by
        by_cases hji : j = i
        · subst hji; simpa [updV] using hv
        · have hl' : listed.getD j false = true := by rw [hset] at hl; simpa [updB, hji] using hl
          have := hkeep j (vs j) hj hl' (hR j hj hl')
          simpa [updV, hji] using this)
      have hfe : (fun k => (listed.setIfInBounds i true).getD k false) = updB (fun k => listed.getD k false) i := funext hset
      rw [hfe] at this
      exact this
end
/-- A region that draws its order, by what each operation leaves, with a word J on the world that hangs on which operations are done (old memory may be written); an operation with a guard shows that its guard holds. -/
theorem wp_region_J {P : Program} {id : Nat} {Q : Exit → Act → World → Prop} {a0 : Act} {w : World} {l : List Oper} (n : Nat) (J : (Nat → Bool) → World → Prop) (R : Nat → Value → World → Prop) (hm : P.follows .mixedOrders = true) (hB : Region.invJB l.toArray n = true) (hf : Region.fitsB l.toArray n a0.tmps.size = true) (ds : List (Option Tmp)) (hds : (List.range n).map (dstAt l.toArray) = ds)
    (hJ0 : ∀ W, Below w.heap.size w W → J (fun _ => false) W)
    (hop : ∀ i o, i < n → l[i]? = some o → ∀ (a : Act) (W : World) (ls : Nat → Bool), J ls W → ls i = false → (∀ k, (∀ j, j < n → dstAt l.toArray j = some k → ls j = false) → a.eval (.tmp k) = a0.eval (.tmp k)) → (∀ j d, depB o j = true → dstAt l.toArray j = some d → R j (a.eval (.tmp d)) W) → (∀ j, depB o j = true → ls j = true) → (∀ j oj, l[j]? = some oj → depB oj i = true → ls j = false) →
      Guards l.toArray o a ∧ o.wp P a W (fun a' w' => ∃ v, a' = a.put o.dst v ∧ R i v w' ∧ J (updB ls i) w' ∧ (∀ j u, j < n → ls j = true → R j u W → R j u w')) Q)
    (h : ∀ vs W (ls : Nat → Bool), (∀ i, i < n → ls i = true) → J ls W → (∀ i, i < n → R i (vs i) W) → wpList P l.toArray Q (l.drop n) (putL vs ds 0 a0) W) : (Code.region id l.toArray true).wp P Q a0 w := by
  subst hds
  have hPL : ∀ vs, putOps l.toArray vs (fun _ => true) (List.range n) a0 = putL vs ((List.range n).map (dstAt l.toArray)) 0 a0 := fun vs => by
    rw [List.range_eq_range']
    exact putOps_putL n 0 a0
  simp only [Region.invJB, Bool.and_eq_true, decide_eq_true_eq] at hB
  obtain ⟨⟨⟨⟨⟨hn, hs⟩, hc⟩, hb⟩, hd⟩, hseq⟩ := hB
  have hedge : ∀ (j : Nat) (o : Oper), l.toArray[j]? = some o → (∀ e ∈ o.after, Region.binds .any e = true → e.on < j) := fun j o ho => by
    have hj : j < l.toArray.size := (Array.getElem?_eq_some_iff.1 ho).1
    have := List.all_eq_true.1 hb j (List.mem_range.2 hj)
    rw [ho] at this
    intro e he hb9
    have := List.all_eq_true.1 this e (by simpa using he)
    rw [hb9] at this
    simpa using this
  have hap : ∀ i, i < n → ∀ j, j < n → j ≠ i → ∀ d, dstAt l.toArray j = some d → dstAt l.toArray i ≠ some d := fun i hi j hj hji d hdj hdi => by
    have := List.all_eq_true.1 (List.all_eq_true.1 hd i (List.mem_range.2 hi)) j (List.mem_range.2 hj)
    simp only [Bool.or_eq_true, decide_eq_true_eq, Bool.not_eq_true', decide_eq_false_iff_not] at this
    rcases this with (h1 | h1) | h1
    · exact hji h1.symm
    · rw [h1] at hdi; cases hdi
    · exact h1 (hdi.trans hdj.symm)
  have hfit : ∀ i, i < n → ∀ d, dstAt l.toArray i = some d → d < a0.tmps.size := fun i hi d hdi => by
    have := List.all_eq_true.1 hf i (List.mem_range.2 hi)
    rw [hdi] at this
    simpa using this
  refine wp_region_any hm ?_
  have inv0 : HeadInv .any l.toArray n (Array.replicate l.toArray.size false) :=
    ⟨by simp, fun j oj _ hl => (by rw [getD_replicate_false] at hl; cases hl), fun t _ ht => getD_in (by simpa using ht) (getD_replicate_false _ _)⟩
  have hcnt : (List.range n).countP (fun i => !(Array.replicate l.toArray.size false).getD i false) = n := by
    have : (List.range n).countP (fun i => !(Array.replicate l.toArray.size false).getD i false) = (List.range n).length := List.countP_eq_length.2 fun i _ => by rw [getD_replicate_false]; rfl
    rw [this, List.length_range]
  have key := wp_region_J_any (P := P) (ops := l.toArray) (n := n) (a0 := a0) (J := J) (R := R) (Q := Q) hn hs hc hedge hap hseq
    (fun i o hi ho vs ls W hB hR hdep hlf hcl => by
      have hh : Guards l.toArray o (putOps l.toArray vs ls (List.range n) a0) ∧ _ := hop i o hi (by simpa using ho) _ W ls hB hlf ?_ ?_ ?_ ?_
      · exact ⟨wanted_of hh.1, hh.2⟩
      · intro k hk
        exact eval_unlisted _ _ fun j hj hd => hk j (List.mem_range.1 hj) hd
      · intro j d hj hdj
        obtain ⟨e, he, hb'⟩ := List.any_eq_true.1 hj
        simp only [Bool.and_eq_true, beq_iff_eq] at hb'
        have hel : ls j = true := by rw [← hb'.2]; exact hdep e (by simpa using he) hb'.1
        have hji : j < i := by rw [← hb'.2]; exact hedge i o ho e (by simpa using he) hb'.1
        have hjn : j < n := by omega
        rw [eval_own (List.range n) a0 List.nodup_range (List.mem_range.2 hjn) hel hdj (hfit j hjn d hdj) fun k hk hkj hdk => hap j hjn k (List.mem_range.1 hk) hkj d hdk hdj]
        exact hR j hjn hel
      · intro j hj
        obtain ⟨e, he, hb'⟩ := List.any_eq_true.1 hj
        simp only [Bool.and_eq_true, beq_iff_eq] at hb'
        rw [← hb'.2]; exact hdep e (by simpa using he) hb'.1
      · intro j oj hoj hj
        obtain ⟨e, he, hb'⟩ := List.any_eq_true.1 hj
        simp only [Bool.and_eq_true, beq_iff_eq] at hb'
        cases hlj : ls j with
        | false => rfl
        | true =>
          have := hcl j oj (by simpa using hoj) hlj e (by simpa using he) hb'.1
          rw [hb'.2, hlf] at this
          cases this)
    (fun vs W ls hls hB hR => by rw [hPL]; exact h vs W ls hls hB hR) n (Array.replicate l.toArray.size false) (fun _ => undef) w.drew inv0 hcnt (by rw [show (fun i => (Array.replicate l.toArray.size false).getD i false) = fun _ => false from funext fun i => getD_replicate_false _ _]; exact hJ0 _ (below_of_drew (Below.refl _ _))) (fun j _ hl => by rw [getD_replicate_false] at hl; cases hl)
  have hput : putOps l.toArray (fun _ => undef) (fun i => (Array.replicate l.toArray.size false).getD i false) (List.range n) a0 = a0 := by
    have : ∀ (m : List Nat) (a : Act), putOps l.toArray (fun _ => undef) (fun i => (Array.replicate l.toArray.size false).getD i false) m a = a := by
      intro m
      induction m with
      | nil => intro a; rfl
      | cons j m ih =>
        intro a
        rw [putOps, getD_replicate_false, if_neg (by simp), ih]
    exact this _ _
  rw [hput, show n + (l.toArray.size - n) = l.toArray.size by omega] at key
  exact key
theorem put_none (a : Act) (v : Value) : a.put none v = a := rfl
/-- A slot that no operation of the head writes. -/
theorem notDst {ops : Array Oper} {n k : Nat} {ls : Nat → Bool} (h : freeB ops n k = true) : ∀ j, j < n → dstAt ops j = some k → ls j = false := fun j hj hd => by
  have := List.all_eq_true.1 h j (List.mem_range.2 hj)
  simp [hd] at this
end Go.Proofs.YtelhgjepjieocaaDoor
