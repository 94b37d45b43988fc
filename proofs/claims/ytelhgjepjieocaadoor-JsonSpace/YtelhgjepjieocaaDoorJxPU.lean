import Derived.Test.YtelhgjepjieocaaDoorRgJ
import Derived.Test.YtelhgjepjieocaaDoorJxHex
/- A region that draws its order, walked whole by what each operation leaves: no tail is asked; operations may write; a word J on which are done, on their values and on the world ties the values to each other. -/
namespace Go.Proofs.YtelhgjepjieocaaDoor
open Go.RowKit

def Region.invVB (ops : Array Oper) : Bool :=
  ((List.range ops.size).all fun j => match ops[j]? with | some o => (o.after.toList.all fun e => !Region.binds .any e || decide (e.on < j)) | none => false) &&
  ((List.range ops.size).all fun i => (List.range ops.size).all fun j => decide (i = j) || decide (dstAt ops i = none) || !decide (dstAt ops i = dstAt ops j))
section
variable {P : Program} {ops : Array Oper} {a0 : Act} {J : (Nat → Bool) → (Nat → Value) → World → Prop} {R : Nat → Value → World → Prop} {Q : Exit → Act → World → Prop}

theorem wp_region_V_any
    (hback : ∀ (j : Nat) (o : Oper), ops[j]? = some o → ∀ e ∈ o.after, Region.binds .any e = true → e.on < j) (hap : ∀ i, i < ops.size → ∀ j, j < ops.size → j ≠ i → ∀ d, dstAt ops j = some d → dstAt ops i ≠ some d)
    (hop : ∀ i o, i < ops.size → ops[i]? = some o → ∀ vs (ls : Nat → Bool) w, J ls vs w → (∀ j, j < ops.size → ls j = true → R j (vs j) w) → (∀ e ∈ o.after, Region.binds .any e = true → ls e.on = true) → ls i = false → (∀ j oj, ops[j]? = some oj → ls j = true → ∀ e ∈ oj.after, Region.binds .any e = true → ls e.on = true) →
      Region.wanted o (yielded ops (putOps ops vs ls (List.range ops.size) a0).tmps) = true ∧ o.wp P (putOps ops vs ls (List.range ops.size) a0) w (fun a' w' => ∃ v, a' = (putOps ops vs ls (List.range ops.size) a0).put o.dst v ∧ R i v w' ∧ J (updB ls i) (updV vs i v) w' ∧ (∀ j u, j < ops.size → ls j = true → R j u w → R j u w')) Q)
    (h : ∀ vs w (ls : Nat → Bool), (∀ i, i < ops.size → ls i = true) → J ls vs w → (∀ i, i < ops.size → R i (vs i) w) → Q .normal (putOps ops vs (fun _ => true) (List.range ops.size) a0) w) :
    ∀ (f : Nat) (listed : Array Bool) (vs : Nat → Value) (w : World), HeadInv .any ops ops.size listed → (List.range ops.size).countP (fun i => !listed.getD i false) = f → J (fun i => listed.getD i false) vs w → (∀ j, j < ops.size → listed.getD j false = true → R j (vs j) w) →
      wpAny P .any ops Q f listed (putOps ops vs (fun i => listed.getD i false) (List.range ops.size) a0) w := by
  intro f
  induction f with
  | zero =>
    intro listed vs w inv hcnt hB hR
    have hall : ∀ i, i < ops.size → listed.getD i false = true := fun i hi => by
      have := List.countP_eq_zero.1 hcnt i (List.mem_range.2 hi)
      simpa using this
    have hput : putOps ops vs (fun i => listed.getD i false) (List.range ops.size) a0 = putOps ops vs (fun _ => true) (List.range ops.size) a0 :=
      putOps_congr _ _ fun j hj => ⟨rfl, hall j (List.mem_range.1 hj)⟩
    rw [hput]
    refine ⟨?_, h vs w _ hall hB (fun i hi => hR i hi (hall i hi))⟩
    rw [List.eq_nil_iff_forall_not_mem]
    intro i hi
    obtain ⟨hun, o, ho, -⟩ := mem_ready.1 hi
    have h1 := getD_both hun
    have hlt := (Array.getElem?_eq_some_iff.1 ho).1
    rw [hall i hlt] at h1
    cases h1
  | succ f ih =>
    intro listed vs w inv hcnt hB hR
    have hex : ∃ i, i < ops.size ∧ listed.getD i false = false := by
      have : 0 < (List.range ops.size).countP (fun i => !listed.getD i false) := by omega
      obtain ⟨i, hi, hb⟩ := List.countP_pos_iff.1 this
      exact ⟨i, List.mem_range.1 hi, by simpa using hb⟩
    have hleast : ∃ i, i < ops.size ∧ listed.getD i false = false ∧ ∀ j, j < i → listed.getD j false = true := by
      obtain ⟨i, hi, hl⟩ := hex
      induction i using Nat.strongRecOn with
      | _ i ihh =>
        by_cases hall : ∀ j, j < i → listed.getD j false = true
        · exact ⟨i, hi, hl, hall⟩
        · obtain ⟨j, hj⟩ := Classical.not_forall.1 hall
          obtain ⟨hji, hjl⟩ := Classical.not_imp.1 hj
          exact ihh j hji (by omega) (by simpa using hjl)
    obtain ⟨i0, hi0, hl0, hall0⟩ := hleast
    have hr0 : i0 ∈ Region.ready .any ops listed := mem_ready.2 ⟨getD_in (by rw [inv.size]; exact hi0) hl0, ops[i0], by simp [hi0], fun e he hb => hall0 _ (hback i0 ops[i0] (by simp [hi0]) e he hb)⟩
    refine ⟨fun he => (by rw [he] at hr0; cases hr0), fun i hi => ?_⟩
    obtain ⟨hun, o, ho, hdep⟩ := mem_ready.1 hi
    have hin : i < ops.size := (Array.getElem?_eq_some_iff.1 ho).1
    have hlf : listed.getD i false = false := getD_both hun
    obtain ⟨hwant, hwp⟩ := hop i o hin ho vs (fun k => listed.getD k false) w hB hR hdep hlf inv.closed
    unfold wpOp
    simp only [ho, hwant, if_true]
    refine .inl (Oper.wp_mono ?_ hwp)
    · rintro a' w' ⟨v, rfl, hv, hb, hkeep⟩
      have hdst : o.dst = dstAt ops i := by simp [dstAt, ho]
      rw [hdst, putOps_in (List.range ops.size) a0 List.nodup_range (List.mem_range.2 hin) hlf fun j hj hji d hd => hap i hin j (List.mem_range.1 hj) hji d hd]
      have hsz : i < listed.size := by rw [inv.size]; omega
      have hset : ∀ k, (listed.setIfInBounds i true).getD k false = updB (fun k => listed.getD k false) i k := fun k => by
        by_cases hk : k = i
        · subst hk; simp [updB, hsz]
        · simp [updB, hk, Array.getElem?_setIfInBounds_ne (Ne.symm hk)]
      have := ih (listed.setIfInBounds i true) (updV vs i v) w' (inv.set hi hin) (by
        have hcu := count_upd (List.range ops.size) (fun k => !listed.getD k false) (fun k => !(listed.setIfInBounds i true).getD k false) i List.nodup_range (List.mem_range.2 hin) (by show (!listed.getD i false) = true; rw [hlf]; rfl) (by show (!(listed.setIfInBounds i true).getD i false) = false; rw [hset]; simp [updB]) (fun j hj => by show (!(listed.setIfInBounds i true).getD j false) = (!listed.getD j false); rw [hset]; simp [updB, hj])
        omega) (by rw [show (fun k => (listed.setIfInBounds i true).getD k false) = updB (fun k => listed.getD k false) i from funext hset]; exact hb) (fun j hj hl => by
        by_cases hji : j = i
        · subst hji; simpa [updV] using hv
        · have hl' : listed.getD j false = true := by rw [hset] at hl; simpa [updB, hji] using hl
          have := hkeep j (vs j) hj hl' (hR j hj hl')
          simpa [updV, hji] using this)
      have hfe : (fun k => (listed.setIfInBounds i true).getD k false) = updB (fun k => listed.getD k false) i := funext hset
      rw [hfe] at this
      exact this
end

/-- The whole region: R tells each value; J which are done, all values, the world; behind a done one its value is told by 'vs'. -/
theorem wp_region_V {P : Program} {id : Nat} {Q : Exit → Act → World → Prop} {a0 : Act} {w : World} {l : List Oper} (n : Nat) (J : (Nat → Bool) → (Nat → Value) → World → Prop) (R : Nat → Value → World → Prop) (hm : P.follows .mixedOrders = true) (hn : l.length = n) (hB : Region.invVB l.toArray = true) (hf : Region.fitsB l.toArray n a0.tmps.size = true) (ds : List (Option Tmp)) (hds : (List.range n).map (dstAt l.toArray) = ds)
    (hJ0 : ∀ W vs, Below w.heap.size w W → J (fun _ => false) vs W)
    (hop : ∀ i o, i < n → l[i]? = some o → ∀ (a : Act) (W : World) (ls : Nat → Bool) (vs : Nat → Value), J ls vs W → ls i = false → (∀ k, (∀ j, j < n → dstAt l.toArray j = some k → ls j = false) → a.eval (.tmp k) = a0.eval (.tmp k)) → (∀ j d, depB o j = true → dstAt l.toArray j = some d → R j (a.eval (.tmp d)) W ∧ a.eval (.tmp d) = vs j) → (∀ j, depB o j = true → ls j = true) →
      Guards l.toArray o a ∧ o.wp P a W (fun a' w' => ∃ v, a' = a.put o.dst v ∧ R i v w' ∧ J (updB ls i) (updV vs i v) w' ∧ (∀ j u, j < n → ls j = true → R j u W → R j u w')) Q)
    (h : ∀ vs W (ls : Nat → Bool), (∀ i, i < n → ls i = true) → J ls vs W → (∀ i, i < n → R i (vs i) W) → wpList P l.toArray Q [] (putL vs ds 0 a0) W) : (Code.region id l.toArray true).wp P Q a0 w := by
  subst hds
  have hn' : l.toArray.size = n := by simpa using hn
  subst hn'
  have hPL : ∀ vs, putOps l.toArray vs (fun _ => true) (List.range l.toArray.size) a0 = putL vs ((List.range l.toArray.size).map (dstAt l.toArray)) 0 a0 := fun vs => by
    rw [List.range_eq_range']
    exact putOps_putL _ 0 a0
  simp only [Region.invVB, Bool.and_eq_true] at hB
  obtain ⟨hb, hd⟩ := hB
  have hedge : ∀ (j : Nat) (o : Oper), l.toArray[j]? = some o → (∀ e ∈ o.after, Region.binds .any e = true → e.on < j) := fun j o ho => by
    have hj : j < l.toArray.size := (Array.getElem?_eq_some_iff.1 ho).1
    have := List.all_eq_true.1 hb j (List.mem_range.2 hj)
    rw [ho] at this
    intro e he hb9
    have := List.all_eq_true.1 this e (by simpa using he)
    rw [hb9] at this
    simpa using this
  have hap : ∀ i, i < l.toArray.size → ∀ j, j < l.toArray.size → j ≠ i → ∀ d, dstAt l.toArray j = some d → dstAt l.toArray i ≠ some d := fun i hi j hj hji d hdj hdi => by
    have := List.all_eq_true.1 (List.all_eq_true.1 hd i (List.mem_range.2 hi)) j (List.mem_range.2 hj)
    simp only [Bool.or_eq_true, decide_eq_true_eq, Bool.not_eq_true', decide_eq_false_iff_not] at this
    rcases this with (h1 | h1) | h1
    · exact hji h1.symm
    · rw [h1] at hdi; cases hdi
    · exact h1 (hdi.trans hdj.symm)
  have hfit : ∀ i, i < l.toArray.size → ∀ d, dstAt l.toArray i = some d → d < a0.tmps.size := fun i hi d hdi => by
    have := List.all_eq_true.1 hf i (List.mem_range.2 hi)
    rw [hdi] at this
    simpa using this
  refine wp_region_any hm ?_
  have inv0 : HeadInv .any l.toArray l.toArray.size (Array.replicate l.toArray.size false) :=
    ⟨by simp, fun j oj _ hl => (by rw [getD_replicate_false] at hl; cases hl), fun t _ ht => getD_in (by simpa using ht) (getD_replicate_false _ _)⟩
  have hcnt : (List.range l.toArray.size).countP (fun i => !(Array.replicate l.toArray.size false).getD i false) = l.toArray.size := by
    have : (List.range l.toArray.size).countP (fun i => !(Array.replicate l.toArray.size false).getD i false) = (List.range l.toArray.size).length := List.countP_eq_length.2 fun i _ => by rw [getD_replicate_false]; rfl
    rw [this, List.length_range]
  have key := wp_region_V_any (P := P) (ops := l.toArray) (a0 := a0) (J := J) (R := R) (Q := Q) hedge hap
    (fun i o hi ho vs ls W hB hR hdep hlf hcl => by
      have hh : Guards l.toArray o (putOps l.toArray vs ls (List.range l.toArray.size) a0) ∧ _ := hop i o hi (by simpa using ho) _ W ls vs hB hlf ?_ ?_ ?_
      · exact ⟨wanted_of hh.1, hh.2⟩
      · intro k hk
        exact eval_unlisted _ _ fun j hj hd => hk j (List.mem_range.1 hj) hd
      · intro j d hj hdj
        obtain ⟨e, he, hb'⟩ := List.any_eq_true.1 hj
        simp only [Bool.and_eq_true, beq_iff_eq] at hb'
        have hel : ls j = true := by rw [← hb'.2]; exact hdep e (by simpa using he) hb'.1
        have hji : j < i := by rw [← hb'.2]; exact hedge i o ho e (by simpa using he) hb'.1
        have hjn : j < l.toArray.size := by omega
        rw [eval_own (List.range l.toArray.size) a0 List.nodup_range (List.mem_range.2 hjn) hel hdj (hfit j hjn d hdj) fun k hk hkj hdk => hap j hjn k (List.mem_range.1 hk) hkj d hdk hdj]
        exact ⟨hR j hjn hel, rfl⟩
      · intro j hj
        obtain ⟨e, he, hb'⟩ := List.any_eq_true.1 hj
        simp only [Bool.and_eq_true, beq_iff_eq] at hb'
        rw [← hb'.2]; exact hdep e (by simpa using he) hb'.1)
    (fun vs W ls hls hB hR => by rw [hPL]; exact h vs W ls hls hB hR) l.toArray.size (Array.replicate l.toArray.size false) (fun _ => undef) w.drew inv0 hcnt (by rw [show (fun i => (Array.replicate l.toArray.size false).getD i false) = fun _ => false from funext fun i => getD_replicate_false _ _]; exact hJ0 _ _ (below_of_drew (Below.refl _ _))) (fun j _ hl => by rw [getD_replicate_false] at hl; cases hl)
  have hput : putOps l.toArray (fun _ => undef) (fun i => (Array.replicate l.toArray.size false).getD i false) (List.range l.toArray.size) a0 = a0 := by
    have : ∀ (m : List Nat) (a : Act), putOps l.toArray (fun _ => undef) (fun i => (Array.replicate l.toArray.size false).getD i false) m a = a := by
      intro m
      induction m with
      | nil => intro a; rfl
      | cons j m ih =>
        intro a
        rw [putOps, getD_replicate_false, if_neg (by simp), ih]
    exact this _ _
  rw [hput] at key
  exact key
end Go.Proofs.YtelhgjepjieocaaDoor

/- Layer 18 (json): strconv.ParseUint of four hexadecimal digits, numbered. -/
namespace Go.Proofs.YtelhgjepjieocaaDoor
open Go.RowKit Go.Sort
set_option linter.unusedVariables false

theorem var_cell {P : Program} {w : World} {n : String} {g : Nat} {v : Value} (h : w.var? P n = some #[v]) (hg : P.globalNamed n = some g) : w.cell? ⟨g, 0, none⟩ = some v := by
  unfold World.var? at h
  rw [hg] at h
  simp only [Option.bind_some] at h
  cases hb : w.heap[g]? with
  | none => rw [hb] at h; cases h
  | some o =>
    rw [hb] at h
    cases o with
    | cells cs t =>
      simp at h
      subst h
      simp [World.cell?, hb]
    | _ => simp at h
/-- What the second answer is. -/
def EvR (r : Option Nat) (ev : Value) : Prop := match r with
  | some _ => ev = .nilIface
  | none => ∃ t p, ev = .iface t p
/-- What ParseUint answers. -/
def PuV (x : ByteArray) (v : Value) : Prop := ∃ u ev, v = .tuple #[.int .u64 u, ev] ∧ (∀ m : Nat, hexF 0 x.data.toList = some m → u = m) ∧ EvR (hexF 0 x.data.toList) ev
set_option maxRecDepth 100000 in
set_option maxHeartbeats 1000000 in
theorem parseUint_calls (w : World) (x : ByteArray) (hx : x.size = 4) (hv : Vs w) :
    Calls Tryd.prog 96 #[.string x, .int .i64 16, .int .i64 7] w fun e w' => (∃ v, e = .returned v ∧ PuV x v) ∧ Below w.heap.size w w' := by
  have HI := intPU_calls w x hx
  have HV : Hid (Vs w) := hv
  clear hv
  cases hr : hexF 0 x.data.toList with
  | some m =>
    have HR : Hid (hexF 0 x.data.toList = some m) := hr
    unfold PuI at HI
    rw [hr] at HI
    clear hr
    go_enter Tryd.func96, Tryd.ntmps96
    go_wp2_with fail
    refine HI.mono ?_
    clear HI
    rintro e w1 ⟨hb1, rfl⟩
    go_wp2
    go_ret2
    have HP : PuV x (.tuple #[.int .u64 (m : Int), .nilIface]) := by
      refine ⟨_, _, rfl, fun k hk => ?_, ?_⟩
      · rw [HR.out] at hk; cases hk; rfl
      · rw [HR.out]; rfl
    exact ⟨⟨_, rfl, HP⟩, hb1⟩
  | none =>
    have HR : Hid (hexF 0 x.data.toList = none) := hr
    unfold PuI at HI
    rw [hr] at HI
    clear hr
    go_enter Tryd.func96, Tryd.ntmps96
    go_wp2_with fail
    refine HI.mono ?_
    clear HI
    rintro e w1 ⟨hb1, u, k, rfl, hk⟩
    obtain ⟨-, ⟨t1, p1, hs1⟩, ⟨t2, p2, hs2⟩⟩ := HV.out.stay hb1
    have HTE : Hid (Calls Tryd.prog 75 #[.string ⟨#[80, 97, 114, 115, 101, 85, 105, 110, 116]⟩, .string x, .int .i64 16, .int .i64 7, .iface 114 (.int .i64 k)] w1 fun e w' => (∃ t p, e = .returned (.iface t p)) ∧ Below w1.heap.size w1 w') := by
      rcases hk with rfl | rfl
      · exact (Tryd.strconv_toError_range _ x 16 7 _ w1 (by omega) (var_cell hs2 (by kernel_rfl)) (.inr ⟨_, _, rfl⟩)).mono fun e w' ⟨N, h1, _, _, h2⟩ => ⟨⟨_, _, h1⟩, h2⟩
      · exact (Tryd.strconv_toError_syntax _ x 16 7 _ w1 (by omega) (var_cell hs1 (by kernel_rfl)) (.inr ⟨_, _, rfl⟩)).mono fun e w' ⟨N, h1, _, _, h2⟩ => ⟨⟨_, _, h1⟩, h2⟩
    have HB1 : Hid (Below w.heap.size w w1) := hb1
    clear hb1 hs1 hs2 hk HV
    go_wp2_with fail
    refine HTE.out.mono ?_
    clear HTE
    rintro e w2 ⟨⟨t, p, rfl⟩, hb2⟩
    go_wp2
    go_ret2
    have HP : PuV x (.tuple #[.int .u64 u, .iface t p]) := by
      refine ⟨_, _, rfl, fun k hk => ?_, ?_⟩
      · rw [HR.out] at hk; cases hk
      · rw [HR.out]; exact ⟨_, _, rfl⟩
    exact ⟨⟨_, rfl, HP⟩, HB1.out.trans (hb2.mono HB1.out.size)⟩
end Go.Proofs.YtelhgjepjieocaaDoor
