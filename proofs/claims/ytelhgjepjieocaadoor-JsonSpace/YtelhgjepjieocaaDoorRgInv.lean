/- A region that draws its order, walked by what each operation leaves, whatever the order: the head's operations make memory alone (no old block is written), each of them leaves a value that later ones may rely on; the tail is forced. -/
import Derived.StillTail
import Derived.Orders
import Derived.Below
namespace Go.Proofs.YtelhgjepjieocaaDoor
open Go.RowKit

def dstAt (ops : Array Oper) (i : Nat) : Option Tmp := (ops[i]?).bind (·.dst)
/-- The frame in which the listed operations of l have left their values. -/
def putOps (ops : Array Oper) (vs : Nat → Value) (ls : Nat → Bool) : List Nat → Act → Act
  | [], a => a
  | i :: l, a => putOps ops vs ls l (if ls i then a.put (dstAt ops i) (vs i) else a)
theorem putOps_put {ops : Array Oper} {vs : Nat → Value} {ls : Nat → Bool} {x : Option Tmp} {v : Value} : ∀ (l : List Nat) (a : Act), (∀ j ∈ l, ∀ d, dstAt ops j = some d → x ≠ some d) → (putOps ops vs ls l a).put x v = putOps ops vs ls l (a.put x v)
  | [], _, _ => rfl
  | j :: l, a, h => by
    rw [putOps, putOps_put l _ fun k hk => h k (List.mem_cons_of_mem _ hk), putOps]
    congr 1
    split
    · exact Act.put_comm a _ _ fun d hd => h j (List.mem_cons_self ..) d hd
    · rfl
theorem putOps_congr {ops : Array Oper} {vs us : Nat → Value} {ls ms : Nat → Bool} : ∀ (l : List Nat) (a : Act), (∀ j ∈ l, vs j = us j ∧ ls j = ms j) → putOps ops vs ls l a = putOps ops us ms l a
  | [], _, _ => rfl
  | j :: l, a, h => by
    obtain ⟨h1, h2⟩ := h j (List.mem_cons_self ..)
    rw [putOps, putOps, h1, h2]
    exact putOps_congr l _ fun k hk => h k (List.mem_cons_of_mem _ hk)
def updV (vs : Nat → Value) (i : Nat) (v : Value) : Nat → Value := fun j => if j = i then v else vs j
def updB (ls : Nat → Bool) (i : Nat) : Nat → Bool := fun j => if j = i then true else ls j
theorem putOps_in {ops : Array Oper} {vs : Nat → Value} {ls : Nat → Bool} {i : Nat} {v : Value} : ∀ (l : List Nat) (a : Act), l.Nodup → i ∈ l → ls i = false → (∀ j ∈ l, j ≠ i → ∀ d, dstAt ops j = some d → dstAt ops i ≠ some d) →
    (putOps ops vs ls l a).put (dstAt ops i) v = putOps ops (updV vs i v) (updB ls i) l a
  | [], _, _, hi, _, _ => by simp at hi
  | j :: l, a, hn, hi, hl, ha => by
    obtain ⟨hj, hn'⟩ := List.nodup_cons.1 hn
    by_cases hji : j = i
    · subst hji
      rw [putOps, hl, if_neg (by simp), putOps_put l _ fun k hk => ha k (List.mem_cons_of_mem _ hk) (fun e => hj (e ▸ hk)), putOps]
      simp only [updB, updV, if_true]
      exact putOps_congr l _ fun k hk => by
        have hk' : k ≠ j := fun e => hj (e ▸ hk)
        simp [updV, updB, hk']
    · have hi' : i ∈ l := by
        rcases List.mem_cons.1 hi with h | h
        · exact absurd h.symm hji
        · exact h
      rw [putOps, putOps_in l _ hn' hi' hl fun k hk => ha k (List.mem_cons_of_mem _ hk), putOps]
      congr 1
      simp [updV, updB, hji]
theorem eval_other {ops : Array Oper} {vs : Nat → Value} {ls : Nat → Bool} {k : Tmp} : ∀ (l : List Nat) (a : Act), (∀ j ∈ l, dstAt ops j ≠ some k) → (putOps ops vs ls l a).eval (.tmp k) = a.eval (.tmp k)
  | [], _, _ => rfl
  | j :: l, a, h => by
    rw [putOps, eval_other l _ fun i hi => h i (List.mem_cons_of_mem _ hi)]
    split
    · have hj := h j (List.mem_cons_self ..)
      cases hd : dstAt ops j with
      | none => rfl
      | some d =>
        rw [hd] at hj
        have : d ≠ k := fun e => hj (by rw [e])
        simp only [Act.put, Act.eval]
        rw [Array.getD_eq_getD_getElem?, Array.getD_eq_getD_getElem?, Array.getElem?_setIfInBounds_ne this]
    · rfl
theorem size_putOps {ops : Array Oper} {vs : Nat → Value} {ls : Nat → Bool} : ∀ (l : List Nat) (a : Act), (putOps ops vs ls l a).tmps.size = a.tmps.size
  | [], _ => rfl
  | j :: l, a => by
    rw [putOps, size_putOps l]
    split
    · cases hd : dstAt ops j with
      | none => rfl
      | some d => simp [Act.put]
    · rfl
theorem eval_own {ops : Array Oper} {vs : Nat → Value} {ls : Nat → Bool} {i : Nat} {k : Tmp} : ∀ (l : List Nat) (a : Act), l.Nodup → i ∈ l → ls i = true → dstAt ops i = some k → k < a.tmps.size → (∀ j ∈ l, j ≠ i → dstAt ops j ≠ some k) → (putOps ops vs ls l a).eval (.tmp k) = vs i
  | [], _, _, hi, _, _, _, _ => by simp at hi
  | j :: l, a, hn, hi, hl, hd, hk, ha => by
    obtain ⟨hj, hn'⟩ := List.nodup_cons.1 hn
    by_cases hji : j = i
    · subst hji
      rw [putOps, hl, if_pos rfl, eval_other l _ fun m hm => ha m (List.mem_cons_of_mem _ hm) (fun e => hj (e ▸ hm)), hd]
      simp only [Act.put, Act.eval]
      rw [Array.getD_eq_getD_getElem?, Array.getElem?_setIfInBounds_self_of_lt hk]
      rfl
    · have hi' : i ∈ l := by
        rcases List.mem_cons.1 hi with h | h
        · exact absurd h.symm hji
        · exact h
      rw [putOps]
      refine eval_own l _ hn' hi' hl hd ?_ fun m hm => ha m (List.mem_cons_of_mem _ hm)
      split
      · cases hd' : dstAt ops j with
        | none => exact hk
        | some d => simpa [Act.put] using hk
      · exact hk
theorem count_upd : ∀ (l : List Nat) (p q : Nat → Bool) (i : Nat), l.Nodup → i ∈ l → p i = true → q i = false → (∀ j, j ≠ i → q j = p j) → l.countP p = l.countP q + 1
  | [], _, _, _, _, hi, _, _, _ => by simp at hi
  | j :: l, p, q, i, hn, hi, hp, hq, h => by
    obtain ⟨hj, hn'⟩ := List.nodup_cons.1 hn
    by_cases hji : j = i
    · subst hji
      have : l.countP p = l.countP q := List.countP_congr fun k hk => by rw [h k (fun e => hj (e ▸ hk))]
      rw [List.countP_cons, List.countP_cons, hp, hq, this]
      simp
    · have hi' : i ∈ l := by
        rcases List.mem_cons.1 hi with h | h
        · exact absurd h.symm hji
        · exact h
      rw [List.countP_cons, List.countP_cons, count_upd l p q i hn' hi' hp hq h, h j hji]
      omega

/-- What is reckoned of a region: its edges lead back; the head's slots are apart; no guards in the head; the tail waits for the whole head, one operation behind the other. -/
def Region.invB (ops : Array Oper) (n : Nat) : Bool :=
  decide (n < ops.size) && Region.sinkB .any ops n && Region.chainB .any ops n &&
  ((List.range ops.size).all fun j => match ops[j]? with | some o => (o.after.toList.all fun e => decide (e.on < j)) && (decide (n ≤ j) || o.guard.isNone) | none => false) &&
  ((List.range n).all fun i => (List.range n).all fun j => decide (i = j) || decide (dstAt ops i = none) || !decide (dstAt ops i = dstAt ops j)) &&
  Region.seqB .any ops (ops.size - n) n ((List.replicate n true ++ List.replicate (ops.size - n) false).toArray)

section
variable {P : Program} {ops : Array Oper} {n : Nat} {w0 : World} {a0 : Act} {R : Nat → Value → World → Prop} {F : Nat → Bool} {Q : Exit → Act → World → Prop}

theorem wp_region_inv_any (hn : n < ops.size) (hs : Region.sinkB .any ops n = true) (hc : Region.chainB .any ops n = true)
    (hback : ∀ (j : Nat) (o : Oper), ops[j]? = some o → ∀ e ∈ o.after, e.on < j) (hap : ∀ i, i < n → ∀ j, j < n → j ≠ i → ∀ d, dstAt ops j = some d → dstAt ops i ≠ some d)
    (hseq : Region.seqB .any ops (ops.size - n) n ((List.replicate n true ++ List.replicate (ops.size - n) false).toArray) = true)
    (mono : ∀ i v w w', R i v w → Below w.heap.size w w' → R i v w')
    (hop : ∀ i o, i < n → ops[i]? = some o → ∀ vs (ls : Nat → Bool) w, Below w0.heap.size w0 w → (∀ j, j < n → ls j = true → R j (vs j) w) → (∀ e ∈ o.after, Region.binds .any e = true → ls e.on = true) → ls i = false →
      Region.wanted o (yielded ops (putOps ops vs ls (List.range n) a0).tmps) = true ∧ o.wp P (putOps ops vs ls (List.range n) a0) w (fun a' w' => ∃ v, a' = (putOps ops vs ls (List.range n) a0).put o.dst v ∧ R i v w' ∧ Below w.heap.size w w' ∧ (F i = true → ∀ j u, j < n → F j = true → R j u w → v ≠ u)) Q)
    (h : ∀ vs w, Below w0.heap.size w0 w → (∀ i, i < n → R i (vs i) w) → (∀ i j, i < n → j < n → i ≠ j → F i = true → F j = true → vs i ≠ vs j) → wpList P ops Q (ops.toList.drop n) (putOps ops vs (fun _ => true) (List.range n) a0) w) :
    ∀ (f : Nat) (listed : Array Bool) (vs : Nat → Value) (w : World), HeadInv .any ops n listed → (List.range n).countP (fun i => !listed.getD i false) = f → Below w0.heap.size w0 w → (∀ j, j < n → listed.getD j false = true → R j (vs j) w) → (∀ i j, i < n → j < n → i ≠ j → listed.getD i false = true → listed.getD j false = true → F i = true → F j = true → vs i ≠ vs j) →
      wpAny P .any ops Q (f + (ops.size - n)) listed (putOps ops vs (fun i => listed.getD i false) (List.range n) a0) w := by
  intro f
  induction f with
  | zero =>
    intro listed vs w inv hcnt hB hR hF
    have hall : ∀ i, i < n → listed.getD i false = true := fun i hi => by
      have := List.countP_eq_zero.1 hcnt i (List.mem_range.2 hi)
      simpa using this
    have hl : listed = ((List.replicate n true ++ List.replicate (ops.size - n) false).toArray) := by
      apply Array.ext_getElem?
      intro k
      rcases Nat.lt_or_ge k ops.size with hk | hk
      · have hks : k < listed.size := by rw [inv.size]; exact hk
        by_cases hkn : k < n
        · have h1 := hall k hkn
          simp [hks] at h1
          simp [hks, h1, List.getElem?_append, hkn]
        · have h1 := inv.tail k (by omega) hk
          simp [hks] at h1
          have h2 : ((List.replicate n true ++ List.replicate (ops.size - n) false).toArray)[k]? = some false := by
            simp [List.getElem?_append, hkn, List.getElem?_replicate]
            omega
          rw [h2]
          simp [hks, h1]
      · rw [Array.getElem?_eq_none (by rw [inv.size]; exact hk), Array.getElem?_eq_none (by simp; omega)]
    have hput : putOps ops vs (fun i => listed.getD i false) (List.range n) a0 = putOps ops vs (fun _ => true) (List.range n) a0 :=
      putOps_congr _ _ fun j hj => ⟨rfl, hall j (List.mem_range.1 hj)⟩
    rw [hput, Nat.zero_add]
    have hlen : (ops.toList.drop n).length = ops.size - n := by simp
    have := wpAny_of_seq (md := .any) (Q' := Q) (ops.toList.drop n) n listed (putOps ops vs (fun _ => true) (List.range n) a0) w (fun j => by simp [List.getElem?_drop]) (by rw [hlen, hl]; exact hseq) (h vs w hB (fun i hi => hR i hi (hall i hi)) fun i j hi hj hij => hF i j hi hj hij (hall i hi) (hall j hj))
    rwa [hlen] at this
  | succ f ih =>
    intro listed vs w inv hcnt hB hR hF
    -- one that is not listed yet, the least
    have hex : ∃ i, i < n ∧ listed.getD i false = false := by
      have : 0 < (List.range n).countP (fun i => !listed.getD i false) := by omega
      obtain ⟨i, hi, hb⟩ := List.countP_pos_iff.1 this
      exact ⟨i, List.mem_range.1 hi, by simpa using hb⟩
    have hleast : ∃ i, i < n ∧ listed.getD i false = false ∧ ∀ j, j < i → listed.getD j false = true := by
      obtain ⟨i, hi, hl⟩ := hex
      induction i using Nat.strongRecOn with
      | _ i ihh =>
        by_cases hall : ∀ j, j < i → listed.getD j false = true
        · exact ⟨i, hi, hl, hall⟩
        · obtain ⟨j, hj⟩ := Classical.not_forall.1 hall
          obtain ⟨hji, hjl⟩ := Classical.not_imp.1 hj
          exact ihh j hji (by omega) (by simpa using hjl)
    obtain ⟨i0, hi0, hl0, hall0⟩ := hleast
    have hi0s : i0 < ops.size := by omega
    have hr0 : i0 ∈ Region.ready .any ops listed := mem_ready.2 ⟨getD_in (by rw [inv.size]; exact hi0s) hl0, ops[i0], by simp [hi0s], fun e he _ => hall0 _ (hback i0 ops[i0] (by simp [hi0s]) e he)⟩
    rw [show f + 1 + (ops.size - n) = (f + (ops.size - n)) + 1 by omega]
    refine ⟨fun he => (by rw [he] at hr0; cases hr0), fun i hi => ?_⟩
    have hin : i < n := by
      rcases Nat.lt_or_ge i n with hh | hh
      · exact hh
      · exact absurd hi (tail_waits hs hc hn inv _ i0 rfl hi0 (getD_in (by rw [inv.size]; exact hi0s) hl0) i hh)
    obtain ⟨hun, o, ho, hdep⟩ := mem_ready.1 hi
    have hlf : listed.getD i false = false := getD_both hun
    obtain ⟨hwant, hwp⟩ := hop i o hin ho vs (fun k => listed.getD k false) w hB hR hdep hlf
    unfold wpOp
    simp only [ho, hwant, if_true]
    refine .inl (Oper.wp_mono ?_ hwp)
    · rintro a' w' ⟨v, rfl, hv, hb, hnew⟩
      have hdst : o.dst = dstAt ops i := by simp [dstAt, ho]
      rw [hdst, putOps_in (List.range n) a0 List.nodup_range (List.mem_range.2 hin) hlf fun j hj hji d hd => hap i hin j (List.mem_range.1 hj) hji d hd]
      have hsz : i < listed.size := by rw [inv.size]; omega
      have hset : ∀ k, (listed.setIfInBounds i true).getD k false = updB (fun k => listed.getD k false) i k := fun k => by
        by_cases hk : k = i
        · subst hk; simp [updB, hsz]
        · simp [updB, hk, Array.getElem?_setIfInBounds_ne (Ne.symm hk)]
      have := ih (listed.setIfInBounds i true) (updV vs i v) w' (inv.set hi hin) (by
        have hcu := count_upd (List.range n) (fun k => !listed.getD k false) (fun k => !(listed.setIfInBounds i true).getD k false) i List.nodup_range (List.mem_range.2 hin) (by show (!listed.getD i false) = true; rw [hlf]; rfl) (by show (!(listed.setIfInBounds i true).getD i false) = false; rw [hset]; simp [updB]) (fun j hj => by show (!(listed.setIfInBounds i true).getD j false) = (!listed.getD j false); rw [hset]; simp [updB, hj])
        omega) (hB.trans (hb.mono hB.size)) (fun j hj hl => by
        by_cases hji : j = i
        · subst hji; simpa [updV] using hv
        · have hl' : listed.getD j false = true := by rw [hset] at hl; simpa [updB, hji] using hl
          have := mono j (vs j) w w' (hR j hj hl') hb
          simpa [updV, hji] using this) (fun k j hk hj hkj hlk hlj hfk hfj => by
        have hlo : ∀ m, m ≠ i → (listed.setIfInBounds i true).getD m false = true → listed.getD m false = true := fun m hm hl => by rw [hset] at hl; simpa [updB, hm] using hl
        by_cases hki : k = i
        · subst hki
          have hji : j ≠ k := fun e => hkj e.symm
          have := hnew hfk j (vs j) hj hfj (hR j hj (hlo j hji hlj))
          simpa [updV, hji] using this
        · by_cases hji : j = i
          · subst hji
            have := hnew hfj k (vs k) hk hfk (hR k hk (hlo k hki hlk))
            simpa [updV, hki] using fun e => this e.symm
          · have := hF k j hk hj hkj (hlo k hki hlk) (hlo j hji hlj) hfk hfj
            simpa [updV, hki, hji] using this)
      have hfe : (fun k => (listed.setIfInBounds i true).getD k false) = updB (fun k => listed.getD k false) i := funext hset
      rw [hfe] at this
      exact this
end
def freeB (ops : Array Oper) (n k : Nat) : Bool := (List.range n).all fun j => !decide (dstAt ops j = some k)
def depB (o : Oper) (j : Nat) : Bool := o.after.toList.any fun e => Region.binds .any e && e.on == j
def Region.fitsB (ops : Array Oper) (n m : Nat) : Bool := (List.range n).all fun i => match dstAt ops i with | some d => decide (d < m) | none => true
theorem below_of_drew {w w' : World} (h : Below w.heap.size w.drew w') : Below w.heap.size w w' := ⟨h.os, h.tape, h.output, h.size, h.block⟩
theorem drew_of_below {w w' : World} (h : Below w.heap.size w w') : Below w.drew.heap.size w.drew w' := ⟨h.os, h.tape, h.output, h.size, h.block⟩

/-- The frame at the head's end, by its slots alone. -/
def putL (vs : Nat → Value) : List (Option Tmp) → Nat → Act → Act
  | [], _, a => a
  | d :: ds, k, a => putL vs ds (k + 1) (a.put d (vs k))
theorem putOps_putL {ops : Array Oper} {vs : Nat → Value} : ∀ (m k : Nat) (a : Act), putOps ops vs (fun _ => true) (List.range' k m) a = putL vs ((List.range' k m).map (dstAt ops)) k a
  | 0, _, _ => rfl
  | m + 1, k, a => by
    rw [List.range'_succ, putOps, List.map_cons, putL, if_pos rfl]
    exact putOps_putL m (k + 1) _
/-- The operation has no guard, or its guard holds. -/
def Guards (ops : Array Oper) (o : Oper) (a : Act) : Prop := o.guard = none ∨ ∃ j b d, o.guard = some (j, b) ∧ dstAt ops j = some d ∧ a.eval (.tmp d) = .bool b
theorem wanted_of {ops : Array Oper} {o : Oper} {a : Act} (h : Guards ops o a) : Region.wanted o (yielded ops a.tmps) = true := by
  rcases h with h | ⟨j, b, d, h1, h2, h3⟩
  · simp [Region.wanted, h]
  · have h4 : a.tmps[d]? = some (.bool b) := by
      simp only [Act.eval, Array.getD_eq_getD_getElem?] at h3
      cases hx : a.tmps[d]? with
      | none => rw [hx] at h3; simp [undef] at h3
      | some v => rw [hx] at h3; simpa using h3
    have h5 : (ops[j]?).bind (·.dst) = some d := h2
    simp [Region.wanted, h1, yielded, h5, h4]
def Region.invGB (ops : Array Oper) (n : Nat) : Bool :=
  decide (n < ops.size) && Region.sinkB .any ops n && Region.chainB .any ops n &&
  ((List.range ops.size).all fun j => match ops[j]? with | some o => (o.after.toList.all fun e => decide (e.on < j)) | none => false) &&
  ((List.range n).all fun i => (List.range n).all fun j => decide (i = j) || decide (dstAt ops i = none) || !decide (dstAt ops i = dstAt ops j)) &&
  Region.seqB .any ops (ops.size - n) n ((List.replicate n true ++ List.replicate (ops.size - n) false).toArray)
/-- A region that draws its order, by what each operation leaves; F: those whose values are unlike each other; an operation with a guard shows that its guard holds. -/
theorem wp_region_invG {P : Program} {id : Nat} {Q : Exit → Act → World → Prop} {a0 : Act} {w : World} {l : List Oper} (n : Nat) (R : Nat → Value → World → Prop) (F : Nat → Bool) (hm : P.follows .mixedOrders = true) (hB : Region.invGB l.toArray n = true) (hf : Region.fitsB l.toArray n a0.tmps.size = true) (ds : List (Option Tmp)) (hds : (List.range n).map (dstAt l.toArray) = ds)
    (mono : ∀ i v w w', R i v w → Below w.heap.size w w' → R i v w')
    (hop : ∀ i o, i < n → l[i]? = some o → ∀ (a : Act) (W : World), Below w.heap.size w W → (∀ k, freeB l.toArray n k = true → a.eval (.tmp k) = a0.eval (.tmp k)) → (∀ j d, depB o j = true → dstAt l.toArray j = some d → R j (a.eval (.tmp d)) W) →
      Guards l.toArray o a ∧ o.wp P a W (fun a' w' => ∃ v, a' = a.put o.dst v ∧ R i v w' ∧ Below W.heap.size W w' ∧ (F i = true → ∀ j u, j < n → F j = true → R j u W → v ≠ u)) Q)
    (h : ∀ vs W, Below w.heap.size w W → (∀ i, i < n → R i (vs i) W) → (∀ i j, i < n → j < n → i ≠ j → F i = true → F j = true → vs i ≠ vs j) → wpList P l.toArray Q (l.drop n) (putL vs ds 0 a0) W) : (Code.region id l.toArray true).wp P Q a0 w := by
  subst hds
  have hPL : ∀ vs, putOps l.toArray vs (fun _ => true) (List.range n) a0 = putL vs ((List.range n).map (dstAt l.toArray)) 0 a0 := fun vs => by
    rw [List.range_eq_range']
    exact putOps_putL n 0 a0
  simp only [Region.invGB, Bool.and_eq_true, decide_eq_true_eq] at hB
  obtain ⟨⟨⟨⟨⟨hn, hs⟩, hc⟩, hb⟩, hd⟩, hseq⟩ := hB
  have hedge : ∀ (j : Nat) (o : Oper), l.toArray[j]? = some o → (∀ e ∈ o.after, e.on < j) := fun j o ho => by
    have hj : j < l.toArray.size := (Array.getElem?_eq_some_iff.1 ho).1
    have := List.all_eq_true.1 hb j (List.mem_range.2 hj)
    rw [ho] at this
    exact fun e he => of_decide_eq_true (List.all_eq_true.1 this e (by simpa using he))
  have hap : ∀ i, i < n → ∀ j, j < n → j ≠ i → ∀ d, dstAt l.toArray j = some d → dstAt l.toArray i ≠ some d := fun i hi j hj hji d hdj hdi => by
    have := List.all_eq_true.1 (List.all_eq_true.1 hd i (List.mem_range.2 hi)) j (List.mem_range.2 hj)
    simp only [Bool.or_eq_true, decide_eq_true_eq, Bool.not_eq_true', decide_eq_false_iff_not] at this
    rcases this with (h1 | h1) | h1
    · exact hji h1.symm
    · rw [h1] at hdi; cases hdi
    · exact h1 (hdi.trans hdj.symm)
  have hfit : ∀ i, i < n → ∀ d, dstAt l.toArray i = some d → d < a0.tmps.size := fun i hi d hdi => by
    have := List.all_eq_true.1 hf i (List.mem_range.2 hi)
    rw [hdi] at this
    simpa using this
  refine wp_region_any hm ?_
  have inv0 : HeadInv .any l.toArray n (Array.replicate l.toArray.size false) :=
    ⟨by simp, fun j oj _ hl => (by rw [getD_replicate_false] at hl; cases hl), fun t _ ht => getD_in (by simpa using ht) (getD_replicate_false _ _)⟩
  have hcnt : (List.range n).countP (fun i => !(Array.replicate l.toArray.size false).getD i false) = n := by
    have : (List.range n).countP (fun i => !(Array.replicate l.toArray.size false).getD i false) = (List.range n).length := List.countP_eq_length.2 fun i _ => by rw [getD_replicate_false]; rfl
    rw [this, List.length_range]
  have key := wp_region_inv_any (P := P) (ops := l.toArray) (n := n) (w0 := w.drew) (a0 := a0) (R := R) (F := F) (Q := Q) hn hs hc hedge hap hseq mono
    (fun i o hi ho vs ls W hB hR hdep hlf => by
      have hh : Guards l.toArray o (putOps l.toArray vs ls (List.range n) a0) ∧ _ := hop i o hi (by simpa using ho) _ W (below_of_drew hB) ?_ ?_
      · exact ⟨wanted_of hh.1, hh.2⟩
      · intro k hk
        refine eval_other _ _ fun j hj => ?_
        have := List.all_eq_true.1 hk j hj
        simpa using this
      · intro j d hj hdj
        obtain ⟨e, he, hb'⟩ := List.any_eq_true.1 hj
        simp only [Bool.and_eq_true, beq_iff_eq] at hb'
        have hel : ls j = true := by rw [← hb'.2]; exact hdep e (by simpa using he) hb'.1
        have hji : j < i := by rw [← hb'.2]; exact hedge i o ho e (by simpa using he)
        have hjn : j < n := by omega
        rw [eval_own (List.range n) a0 List.nodup_range (List.mem_range.2 hjn) hel hdj (hfit j hjn d hdj) fun k hk hkj hdk => hap j hjn k (List.mem_range.1 hk) hkj d hdk hdj]
        exact hR j hjn hel)
    (fun vs W hB hR hF => by rw [hPL]; exact h vs W (below_of_drew hB) hR hF) n (Array.replicate l.toArray.size false) (fun _ => undef) w.drew inv0 hcnt (Below.refl _ _) (fun j _ hl => by rw [getD_replicate_false] at hl; cases hl) (fun i j _ _ _ hl => by rw [getD_replicate_false] at hl; cases hl)
  have hput : putOps l.toArray (fun _ => undef) (fun i => (Array.replicate l.toArray.size false).getD i false) (List.range n) a0 = a0 := by
    have : ∀ (m : List Nat) (a : Act), putOps l.toArray (fun _ => undef) (fun i => (Array.replicate l.toArray.size false).getD i false) m a = a := by
      intro m
      induction m with
      | nil => intro a; rfl
      | cons j m ih =>
        intro a
        rw [putOps, getD_replicate_false, if_neg (by simp), ih]
    exact this _ _
  rw [hput, show n + (l.toArray.size - n) = l.toArray.size by omega] at key
  exact key
/-- A region that draws its order, by what each operation leaves; F: those whose values are unlike each other. -/
theorem wp_region_invF {P : Program} {id : Nat} {Q : Exit → Act → World → Prop} {a0 : Act} {w : World} {l : List Oper} (n : Nat) (R : Nat → Value → World → Prop) (F : Nat → Bool) (hm : P.follows .mixedOrders = true) (hB : Region.invB l.toArray n = true) (hf : Region.fitsB l.toArray n a0.tmps.size = true) (ds : List (Option Tmp)) (hds : (List.range n).map (dstAt l.toArray) = ds)
    (mono : ∀ i v w w', R i v w → Below w.heap.size w w' → R i v w')
    (hop : ∀ i o, i < n → l[i]? = some o → ∀ (a : Act) (W : World), Below w.heap.size w W → (∀ k, freeB l.toArray n k = true → a.eval (.tmp k) = a0.eval (.tmp k)) → (∀ j d, depB o j = true → dstAt l.toArray j = some d → R j (a.eval (.tmp d)) W) →
      o.wp P a W (fun a' w' => ∃ v, a' = a.put o.dst v ∧ R i v w' ∧ Below W.heap.size W w' ∧ (F i = true → ∀ j u, j < n → F j = true → R j u W → v ≠ u)) Q)
    (h : ∀ vs W, Below w.heap.size w W → (∀ i, i < n → R i (vs i) W) → (∀ i j, i < n → j < n → i ≠ j → F i = true → F j = true → vs i ≠ vs j) → wpList P l.toArray Q (l.drop n) (putL vs ds 0 a0) W) : (Code.region id l.toArray true).wp P Q a0 w := by
  subst hds
  have hPL : ∀ vs, putOps l.toArray vs (fun _ => true) (List.range n) a0 = putL vs ((List.range n).map (dstAt l.toArray)) 0 a0 := fun vs => by
    rw [List.range_eq_range']
    exact putOps_putL n 0 a0
  simp only [Region.invB, Bool.and_eq_true, decide_eq_true_eq] at hB
  obtain ⟨⟨⟨⟨⟨hn, hs⟩, hc⟩, hb⟩, hd⟩, hseq⟩ := hB
  have hedge : ∀ (j : Nat) (o : Oper), l.toArray[j]? = some o → (∀ e ∈ o.after, e.on < j) ∧ (j < n → o.guard = none) := fun j o ho => by
    have hj : j < l.toArray.size := (Array.getElem?_eq_some_iff.1 ho).1
    have := List.all_eq_true.1 hb j (List.mem_range.2 hj)
    rw [ho] at this
    simp only [Bool.and_eq_true, Bool.or_eq_true, decide_eq_true_eq] at this
    refine ⟨fun e he => of_decide_eq_true (List.all_eq_true.1 this.1 e (by simpa using he)), fun hjn => ?_⟩
    rcases this.2 with h1 | h1
    · omega
    · simpa using h1
  have hap : ∀ i, i < n → ∀ j, j < n → j ≠ i → ∀ d, dstAt l.toArray j = some d → dstAt l.toArray i ≠ some d := fun i hi j hj hji d hdj hdi => by
    have := List.all_eq_true.1 (List.all_eq_true.1 hd i (List.mem_range.2 hi)) j (List.mem_range.2 hj)
    simp only [Bool.or_eq_true, decide_eq_true_eq, Bool.not_eq_true', decide_eq_false_iff_not] at this
    rcases this with (h1 | h1) | h1
    · exact hji h1.symm
    · rw [h1] at hdi; cases hdi
    · exact h1 (hdi.trans hdj.symm)
  have hfit : ∀ i, i < n → ∀ d, dstAt l.toArray i = some d → d < a0.tmps.size := fun i hi d hdi => by
    have := List.all_eq_true.1 hf i (List.mem_range.2 hi)
    rw [hdi] at this
    simpa using this
  refine wp_region_any hm ?_
  have inv0 : HeadInv .any l.toArray n (Array.replicate l.toArray.size false) :=
    ⟨by simp, fun j oj _ hl => (by rw [getD_replicate_false] at hl; cases hl), fun t _ ht => getD_in (by simpa using ht) (getD_replicate_false _ _)⟩
  have hcnt : (List.range n).countP (fun i => !(Array.replicate l.toArray.size false).getD i false) = n := by
    have : (List.range n).countP (fun i => !(Array.replicate l.toArray.size false).getD i false) = (List.range n).length := List.countP_eq_length.2 fun i _ => by rw [getD_replicate_false]; rfl
    rw [this, List.length_range]
  have key := wp_region_inv_any (P := P) (ops := l.toArray) (n := n) (w0 := w.drew) (a0 := a0) (R := R) (F := F) (Q := Q) hn hs hc (fun j o ho => (hedge j o ho).1) hap hseq mono
    (fun i o hi ho vs ls W hB hR hdep hlf => by
      refine ⟨?_, hop i o hi (by simpa using ho) _ W (below_of_drew hB) ?_ ?_⟩
      · simp [Region.wanted, (hedge i o ho).2 hi]
      · intro k hk
        refine eval_other _ _ fun j hj => ?_
        have := List.all_eq_true.1 hk j hj
        simpa using this
      · intro j d hj hdj
        obtain ⟨e, he, hb'⟩ := List.any_eq_true.1 hj
        simp only [Bool.and_eq_true, beq_iff_eq] at hb'
        have hel : ls j = true := by rw [← hb'.2]; exact hdep e (by simpa using he) hb'.1
        have hji : j < i := by rw [← hb'.2]; exact (hedge i o ho).1 e (by simpa using he)
        have hjn : j < n := by omega
        rw [eval_own (List.range n) a0 List.nodup_range (List.mem_range.2 hjn) hel hdj (hfit j hjn d hdj) fun k hk hkj hdk => hap j hjn k (List.mem_range.1 hk) hkj d hdk hdj]
        exact hR j hjn hel)
    (fun vs W hB hR hF => by rw [hPL]; exact h vs W (below_of_drew hB) hR hF) n (Array.replicate l.toArray.size false) (fun _ => undef) w.drew inv0 hcnt (Below.refl _ _) (fun j _ hl => by rw [getD_replicate_false] at hl; cases hl) (fun i j _ _ _ hl => by rw [getD_replicate_false] at hl; cases hl)
  have hput : putOps l.toArray (fun _ => undef) (fun i => (Array.replicate l.toArray.size false).getD i false) (List.range n) a0 = a0 := by
    have : ∀ (m : List Nat) (a : Act), putOps l.toArray (fun _ => undef) (fun i => (Array.replicate l.toArray.size false).getD i false) m a = a := by
      intro m
      induction m with
      | nil => intro a; rfl
      | cons j m ih =>
        intro a
        rw [putOps, getD_replicate_false, if_neg (by simp), ih]
    exact this _ _
  rw [hput, show n + (l.toArray.size - n) = l.toArray.size by omega] at key
  exact key
/-- A region that draws its order, by what each operation leaves. -/
theorem wp_region_inv {P : Program} {id : Nat} {Q : Exit → Act → World → Prop} {a0 : Act} {w : World} {l : List Oper} (n : Nat) (R : Nat → Value → World → Prop) (hm : P.follows .mixedOrders = true) (hB : Region.invB l.toArray n = true) (hf : Region.fitsB l.toArray n a0.tmps.size = true) (ds : List (Option Tmp)) (hds : (List.range n).map (dstAt l.toArray) = ds)
    (mono : ∀ i v w w', R i v w → Below w.heap.size w w' → R i v w')
    (hop : ∀ i o, i < n → l[i]? = some o → ∀ (a : Act) (W : World), Below w.heap.size w W → (∀ k, freeB l.toArray n k = true → a.eval (.tmp k) = a0.eval (.tmp k)) → (∀ j d, depB o j = true → dstAt l.toArray j = some d → R j (a.eval (.tmp d)) W) →
      o.wp P a W (fun a' w' => ∃ v, a' = a.put o.dst v ∧ R i v w' ∧ Below W.heap.size W w') Q)
    (h : ∀ vs W, Below w.heap.size w W → (∀ i, i < n → R i (vs i) W) → wpList P l.toArray Q (l.drop n) (putL vs ds 0 a0) W) : (Code.region id l.toArray true).wp P Q a0 w :=
  wp_region_invF n R (fun _ => false) hm hB hf ds hds mono (fun i o hi ho a W hW hs hd => Oper.wp_mono (fun a' w' ⟨v, h1, h2, h3⟩ => ⟨v, h1, h2, h3, fun e => by cases e⟩) (hop i o hi ho a W hW hs hd)) (fun vs W hW hR _ => h vs W hW hR)
theorem put_lit (t : Array Value) (ds : List Deferred) (k : Tmp) (v : Value) : Act.put ⟨t, ds⟩ (some k) v = ⟨t.setIfInBounds k v, ds⟩ := rfl
theorem map1 {f : Operand → Value} {x : Operand} {u : Value} (h : f x = u) : (#[x] : Array Operand).map f = #[u] := by simp [h]
theorem map2 {f : Operand → Value} {x y : Operand} {u v : Value} (h : f x = u) (k : f y = v) : (#[x, y] : Array Operand).map f = #[u, v] := by simp [h, k]
/-- An operation that yields a value and leaves the world, in whatever frame. -/
theorem wp_valF {P : Program} {o : Oper} {a : Act} {W : World} {K : Act → World → Prop} {Q : Exit → Act → World → Prop} {v : Value} (hrun : (execOp a.eval o).run P W = .ok (.value v) W) (h : K (a.put o.dst v) W) : o.wp P a W K Q := by
  unfold Oper.wp
  rw [hrun]
  exact h
/-- A new variable, in whatever frame. -/
theorem wp_allocF {P : Program} {o : Oper} {a : Act} {W : World} {K : Act → World → Prop} {Q : Exit → Act → World → Prop} {T : TypeId} {cs : Array Value} (ho : o.op = .alloc T) (hrun : (Instr.alloc T true (.tuple #[])).run P W = .ok (.pointer (some ⟨W.heap.size, 0, none⟩)) (W.alloc (.cells cs T))) (h : K (a.put o.dst (.pointer (some ⟨W.heap.size, 0, none⟩))) (W.alloc (.cells cs T))) : o.wp P a W K Q := by
  unfold Oper.wp execOp
  simp only [ho, Sem.run_bind, hrun, Result.andThen_ok]
  exact h
/-- A call of a Go function, in whatever frame. -/
theorem wp_callF {P : Program} {o : Oper} {a : Act} {W : World} {K : Act → World → Prop} {Q : Exit → Act → World → Prop} {f : FuncId} {xs : Array Operand} {ts : Array TypeId} {vals : Array Value} (ho : o.op = .call { callee := .value (.func f), args := xs, argTypes := ts }) (hv : xs.map a.eval = vals)
    (hrun : (callFunc f vals).run P W = .ok (.enter f vals) W) (h : Calls P f vals W fun e w' => ∃ v, e = .returned v ∧ K (a.put o.dst v) w') : o.wp P a W K Q := by
  have hr : (execOp a.eval o).run P W = .ok (.enter f vals) W := by
    simp [execOp, ho, resolve, Deferred.ofValue, invoke, Act.eval, hrun, hv, go_sem]
  unfold Oper.wp
  rw [hr]
  exact h.mono fun e w' ⟨v, he, hk⟩ => by subst he; exact hk
end Go.Proofs.YtelhgjepjieocaaDoor
