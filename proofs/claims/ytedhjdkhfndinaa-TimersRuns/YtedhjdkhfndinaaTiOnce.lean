/- Layer 14 (timers): TimersOnce (by gen_tionce.py). -/
import Derived.Test.YtedhjdkhfndinaaTiAlive
namespace Go.Proofs.Ytedhjdkhfndinaa
open Go.RowKit Go.MapKept
set_option linter.unusedVariables false

def z0 (x : Tm) : Tm := { x with b := 0 }
theorem leT_z0 (x y : Tm) : leT (z0 x) (z0 y) ↔ leT x y := by simp only [leT_iff, z0]
theorem Fires.map0 {now : Int} {L fs R : List Tm} (h : Fires now L fs R) : Fires now (L.map z0) (fs.map z0) (R.map z0) := by
  refine ⟨by rw [← List.map_append]; exact h.perm.map z0, ?_, ?_, ?_⟩
  · rw [List.pairwise_map]
    exact h.sort.imp fun hxy => (leT_z0 _ _).2 hxy
  · intro x hx
    obtain ⟨y, hy, rfl⟩ := List.mem_map.1 hx
    exact h.due y hy
  · intro x hx
    obtain ⟨y, hy, rfl⟩ := List.mem_map.1 hx
    exact h.stay y hy
theorem Fires.two {m e : Int} {L xs R ys R' : List Tm} (h : Fires m L xs R) (h2 : Fires e R ys R') (hle : m ≤ e) : Fires e L (xs ++ ys) R' := by
  refine ⟨by rw [List.append_assoc]; exact (h2.perm.append_left xs).trans h.perm, ?_, ?_, h2.stay⟩
  · rw [List.pairwise_append]
    refine ⟨h.sort, h2.sort, fun a ha b hb => ?_⟩
    have h1 := h.due a ha
    have h3 := h.stay b (h2.perm.mem_iff.1 (List.mem_append_left _ hb))
    rw [leT_iff]
    omega
  · intro x hx
    rcases List.mem_append.1 hx with hx | hx
    · have := h.due x hx; omega
    · exact h2.due x hx
/-- The first k timers as they were set. -/
def setsL (ats : List Int) (k : Nat) : List Tm := (List.range k).map fun (i : Nat) => ⟨(i : Int), ats.getD i 0, (i : Int) + 1, 0⟩
theorem setsL_succ (ats : List Int) (k : Nat) : setsL ats (k + 1) = setsL ats k ++ [⟨(k : Int), ats.getD k 0, (k : Int) + 1, 0⟩] := by simp [setsL, List.range_succ]
theorem setsL_apart (ats : List Int) (k : Nat) : Apart (setsL ats k) := by
  apply apart_turns
  rw [setsL, List.map_map, List.Nodup, List.pairwise_map]
  refine List.Pairwise.imp ?_ (List.nodup_range (n := k))
  intro a b h e
  have e' : (a : Int) + 1 = (b : Int) + 1 := e
  omega
theorem setsL_ids {ats : List Int} {k : Nat} {L : List Tm} (h : (L.map z0).Perm (setsL ats k)) : ∀ x ∈ L, x.id ≠ (k : Int) := by
  intro x hx e
  have h2 := h.mem_iff.1 (List.mem_map.2 ⟨x, hx, rfl⟩)
  rw [setsL] at h2
  obtain ⟨i, hi, he⟩ := List.mem_map.1 h2
  have := congrArg Tm.id he
  simp [z0] at this
  have := List.mem_range.1 hi
  omega
theorem setsL_len {ats : List Int} {k : Nat} {L : List Tm} (h : (L.map z0).Perm (setsL ats k)) : L.length = k := by
  have := h.length_eq
  simpa [setsL] using this
theorem once_pure {ats : List Int} {k : Nat} {La Lb xs Ra ys Ra' zs Rb' : List Tm} {m e : Int} (ha : (La.map z0).Perm (setsL ats k)) (hb : (Lb.map z0).Perm (setsL ats k)) (hle : m ≤ e)
    (h1 : Fires m La xs Ra) (h2 : Fires e Ra ys Ra') (h3 : Fires e Lb zs Rb') : xs.map (·.id) ++ ys.map (·.id) = zs.map (·.id) ∧ Ra'.length = Rb'.length := by
  obtain ⟨u1, u2⟩ := (h1.two h2 hle).map0.uniq h3.map0 (ha.trans hb.symm) ((setsL_apart ats k).perm ha)
  refine ⟨?_, by have := u2.length_eq; simpa using this⟩
  have := congrArg (List.map Tm.id) u1
  rw [List.map_map, List.map_map, List.map_append] at this
  exact this

/-- Times that lie at an address. -/
def UAt (w : World) (ao : Option Addr) (l : List Int) : Prop := ∀ k (h : k < l.length), ∃ b off, ao = some ⟨b, off, none⟩ ∧ w.cell? ⟨b, off + k, none⟩ = some (.int .u64 l[k])
theorem UAt.below {w w' : World} {ao : Option Addr} {l : List Int} (h : UAt w ao l) (hb : Below w.heap.size w w') : UAt w' ao l := fun k hk => by
  obtain ⟨b, off, e, hc⟩ := h k hk
  refine ⟨b, off, e, (hb.cell (p := ⟨b, off + k, none⟩) ?_).trans hc⟩
  unfold World.cell? at hc
  split at hc
  · rename_i hq; exact lt_of_heapT hq
  · cases hc

/-- Two wheels with the first k timers, apart from each other. -/
structure Two (W : World) (n : Nat) (ats : List Int) (wa ma wb mb k : Nat) (wr : World) (Sa Sb : Nat → Prop) (va vb : Value) (La Lb : List Tm) : Prop where
  a : WhAt wr Sa wa ma (n : Int) 0 (k : Int) va La
  b : WhAt wr Sb wb mb (n : Int) 0 (k : Int) vb Lb
  pa : (La.map z0).Perm (setsL ats k)
  pb : (Lb.map z0).Perm (setsL ats k)
  na : ∀ j, Sa j → W.heap.size ≤ j
  nb : ∀ j, Sb j → W.heap.size ≤ j
  dj : ∀ j, Sa j → ¬ Sb j
  bl : Below W.heap.size W wr
theorem Two.stepA {W : World} {n : Nat} {ats : List Int} {wa ma wb mb k : Nat} {wr w2 : World} {Sa Sb Sa' : Nat → Prop} {va vb va' : Value} {La Lb La' : List Tm} {t : Int} {b : Nat} (h : Two W n ats wa ma wb mb k wr Sa Sb va vb La Lb)
    (h1 : WhAt w2 Sa' wa ma (n : Int) 0 ((k : Int) + 1) va' La') (h2 : La'.Perm (La ++ [⟨(k : Int), t, (k : Int) + 1, b⟩])) (hf : Frm Sa wr w2) (hs : ∀ j, Sa' j → Sa j ∨ (wr.heap.size ≤ j ∧ j < w2.heap.size)) (ht : ats.getD k 0 = t) :
    WhAt w2 Sb wb mb (n : Int) 0 (k : Int) vb Lb ∧ (La'.map z0).Perm (setsL ats (k + 1)) ∧ (∀ j, Sa' j → W.heap.size ≤ j) ∧ (∀ j, Sa' j → ¬ Sb j) ∧ Below W.heap.size W w2 := by
  refine ⟨h.b.frm hf (fun j hj hj2 => h.dj j hj2 hj), ?_, fun j hj => ?_, fun j hj hb => ?_, h.bl.trans (hf.toBelow h.bl.size h.na)⟩
  · rw [setsL_succ, ht]
    refine (h2.map z0).trans ?_
    rw [List.map_append]
    exact h.pa.append_right _
  · rcases hs j hj with h' | h'
    · exact h.na j h'
    · exact Nat.le_trans h.bl.size h'.1
  · rcases hs j hj with h' | h'
    · exact h.dj j h' hb
    · have := h.b.sb j hb; omega
theorem Two.stepB {W : World} {n : Nat} {ats : List Int} {wa ma wb mb k : Nat} {w2 w3 : World} {Sa Sb Sb' : Nat → Prop} {va vb' : Value} {La Lb Lb' : List Tm} {t : Int} {b : Nat}
    (ha : WhAt w2 Sa wa ma (n : Int) 0 ((k : Int) + 1) va La) (pa : (La.map z0).Perm (setsL ats (k + 1))) (na : ∀ j, Sa j → W.heap.size ≤ j) (dj : ∀ j, Sa j → ¬ Sb j) (bl : Below W.heap.size W w2) (nb : ∀ j, Sb j → W.heap.size ≤ j) (pb : (Lb.map z0).Perm (setsL ats k))
    (h1 : WhAt w3 Sb' wb mb (n : Int) 0 ((k : Int) + 1) vb' Lb') (h2 : Lb'.Perm (Lb ++ [⟨(k : Int), t, (k : Int) + 1, b⟩])) (hf : Frm Sb w2 w3) (hs : ∀ j, Sb' j → Sb j ∨ (w2.heap.size ≤ j ∧ j < w3.heap.size)) (ht : ats.getD k 0 = t) :
    Two W n ats wa ma wb mb (k + 1) w3 Sa Sb' va vb' La Lb' := by
  have hk : ((k + 1 : Nat) : Int) = (k : Int) + 1 := by omega
  refine ⟨by rw [hk]; exact ha.frm hf dj, by rw [hk]; exact h1, pa, ?_, na, fun j hj => ?_, fun j hj hb => ?_, bl.trans (hf.toBelow bl.size nb)⟩
  · rw [setsL_succ, ht]
    refine (h2.map z0).trans ?_
    rw [List.map_append]
    exact pb.append_right _
  · rcases hs j hj with h' | h'
    · exact nb j h'
    · exact Nat.le_trans bl.size h'.1
  · rcases hs j hb with h' | h'
    · exact dj j hj h'
    · have := ha.sb j hj; omega

theorem ownsRow_keep {w w' : World} {B : Nat} {e : TypeId} {v : Value} {n : Nat} {l : List Value} (h : w.ownsRow B e 1 v n l) (hk : ∀ k, v.ownBlock = some k → w'.heap[k]? = w.heap[k]?) : w'.ownsRow B e 1 v n l := by
  refine ⟨h.1, ?_⟩
  rcases h.2 with h0 | ⟨g, cap, cur, rfl, hb, hg, r⟩
  · exact .inl h0
  · exact .inr ⟨g, cap, cur, rfl, hb, (hk g rfl).trans hg, r⟩
theorem one_ids (l : List Tm) : ∀ u ∈ l.map idV, u.oneCell' = true := fun u hu => by
  obtain ⟨x, _, rfl⟩ := List.mem_map.1 hu
  rfl
/-- append(s, more...), more maybe nil. -/
theorem run_append_noneT (t ty e : TypeId) (i : TypeInfo) (ht : Try.prog.underlying t = some (.slice e)) (hi : Try.prog.info? e = some i) (w : World) (base : Option Addr) (n cap c : Nat) (h : n ≤ cap) :
    (Builtin.append_ #[t, t] ty #[.slice base n cap, .slice none 0 c]).run Try.prog w = .ok (.slice base n cap) w := by
  cases base <;> simp [Builtin.append_, run_underlying ht, sizeOf, typeInfo, hi, Builtin.lenOf, h, Builtin.firstCells, storeCells]
theorem append_srcT (W : World) {ops : Array Oper} {rest : List Oper} {o : Oper} {a : Act} {Q : Exit → Act → World → Prop} (hgd : o.guard = none) (s x : Operand) (t e : TypeId) (z : Value) (bytes : Nat)
    (ht : Try.prog.underlying t = some (.slice e)) (hi : (Try.prog.info? e).map (fun i => (i.zero, i.size, i.bytes)) = some (some z, 1, bytes)) (hzs : z.cells.size = 1)
    (ho : o.op = .call { callee := .builtin .append, args := #[s, x], argTypes := #[t, t] })
    (B : Nat) (v : Value) (l : List Value) (hs : a.eval s = v) (hown : W.ownsRow B e 1 v l.length l) (B2 : Nat) (v2 : Value) (news : List Value) (hx : a.eval x = v2) (hown2 : W.ownsRow B2 e 1 v2 news.length news) (h1 : ∀ u ∈ news, u.oneCell' = true)
    (hm : l.length + news.length ≤ 9223372036854775807) (hlen : (l.length + news.length) * bytes ≤ 140737488355328) (hB : B ≤ W.heap.size)
    (h : ∀ v' w', w'.ownsRow B e 1 v' (l ++ news).length (l ++ news) → Grew W w' v v' → wpList Try.prog ops Q rest (a.put o.dst v') w') : wpList Try.prog ops Q (o :: rest) a W := by
  obtain ⟨i0, hi, hz0, hz1, hz2⟩ := infoOfT hi
  rcases hown2.2 with ⟨e0, h0⟩ | ⟨g, cap, cur, e0, _⟩
  · have hn : news = [] := by
      cases news with
      | nil => rfl
      | cons u us => simp at h0
    subst hn
    obtain ⟨vo, vc, hv⟩ := ownsRow_len hown
    have hnc : l.length ≤ vc := by
      rcases hown.2 with ⟨e, h0⟩ | ⟨g, cap, cur, e, _, _, hnc, _⟩
      · omega
      · rw [hv] at e
        simp only [Value.slice.injEq] at e
        omega
    refine wpList_plain hgd fun K hK => ?_
    have hr := run_append_noneT t o.type e i0 ht hi W vo l.length vc 0 hnc
    rw [e0] at hx
    rw [hv] at hs
    unfold Oper.wp execOp
    simp only [ho, resolve, invoke, builtin, Sem.run_bind, Sem.run_pure, Result.andThen_ok, List.map_toArray, List.map_cons, List.map_nil, hs, hx, hr]
    refine hK _ _ (h _ W ?_ ?_)
    · rw [← hv]; simpa using hown
    · rw [← hv]; exact Grew.refl _ _
  · rw [e0] at hx
    refine wpList_append_grew W hgd s x t ho B e i0 z 1 bytes ht hi hz0 hz1 hz2 hzs (by decide) v l.length l hs hown ⟨g, 0, none⟩ news.length cap news hx (by simp) ?_ h1 (by unfold maxLen; omega) hlen hB ?_
    · rw [e0] at hown2
      exact hown2.cells (g := g) rfl
    · intro v' w' h1 h2 _
      refine h v' w' ?_ h2
      rw [List.length_append]
      exact h1


set_option maxRecDepth 100000 in
set_option maxHeartbeats 1000000 in
theorem timersOnce_callsA (ao : Option Addr) (cap : Nat) (ats : List Int) (mid end' : Int) (w : World) (hu : UAt w ao ats) (hr : ∀ t ∈ ats, 0 ≤ t ∧ t ≤ 18446744073709551615) (hn : ats.length * 8 ≤ 140737488351232) (h0 : 0 ≤ mid) (h1 : 0 ≤ end') (hbr : mid ≤ end') :
    Calls Try.prog 5 #[.slice ao ats.length cap, .int .u64 mid, .int .u64 end'] w fun e w' => e = .returned (.bool true) ∧ Below w.heap.size w w' := by
  obtain ⟨lo, Hlo⟩ : ∃ lo, Hid (lo = mid) := ⟨_, rfl⟩
  obtain ⟨hi, Hhi⟩ : ∃ hi, Hid (hi = end') := ⟨_, rfl⟩
  have hle : lo ≤ hi := by rw [Hlo.out, Hhi.out]; omega
  have hl0 : 0 ≤ lo := by rw [Hlo.out]; assumption
  have hh0 : 0 ≤ hi := by rw [Hhi.out]; assumption
  obtain ⟨n, Hn⟩ : ∃ n, Hid (n = ats.length) := ⟨_, rfl⟩
  have HU : Hid (UAt w ao ats) := hu
  have HR : Hid (∀ t ∈ ats, 0 ≤ t ∧ t ≤ 18446744073709551615) := hr
  rw [← Hn.out] at hn ⊢
  have HA := alive_calls w
  clear hu hr
  go_enter Try.func5, Try.ntmps5
  go_wp2_with fail
  refine HA.mono ?_
  clear HA
  rintro e w1 ⟨rfl, hb1⟩
  have HNa := new_calls (n : Int) w1
  go_wp2_with fail
  refine HNa.mono ?_
  clear HNa
  rintro e w2 ⟨wa, ma, rfl, hWa, hb2⟩
  have HNb := new_calls (n : Int) w2
  have hmx : max (n : Int) 0 = (n : Int) := by omega
  rw [hmx] at hWa HNb
  go_wp2_with fail
  refine HNb.mono ?_
  clear HNb
  rintro e w3 ⟨wb, mb, rfl, hWb, hb3⟩
  have HT0 : Hid (∃ Sa Sb va vb La Lb, Two w n ats wa ma wb mb 0 w3 Sa Sb va vb La Lb) :=
    ⟨_, _, _, _, [], [], ⟨hWa.below hb3, hWb, .refl _, .refl _, fun j hj => Nat.le_trans hb1.size hj.1, fun j hj => Nat.le_trans (Nat.le_trans hb1.size hb2.size) hj.1, fun j hj hk => by omega, (hb1.trans (hb2.mono hb1.size)).trans (hb3.mono (Nat.le_trans hb1.size hb2.size))⟩⟩
  clear hWa hWb hb1 hb2 hb3 hmx
  go_upto_region 9 with fail
  rw [← Hlo.out, ← Hhi.out]
  go_loopw [9, 10, 39] (fun _ _ i wr => ∃ k : Nat, k ≤ n ∧ i = .int .i64 (k : Int) ∧ Hid (∃ Sa Sb va vb La Lb, Two w n ats wa ma wb mb k wr Sa Sb va vb La Lb)) (fun _ _ i _ => n - (intOf i).toNat)
  case atStart => exact ⟨0, Nat.zero_le _, rfl, HT0⟩
  case round =>
    clear HT0
    obtain ⟨k, hk, rfl, HT⟩ := hrel
    obtain ⟨Sa, Sb, va, vb, La, Lb, hT⟩ := HT.out
    by_cases hlt : k < n
    · have hka : k < ats.length := by rw [← Hn.out]; exact hlt
      obtain ⟨b, off, rfl, hc⟩ := (HU.out.below hT.bl) k hka
      obtain ⟨t, Ht⟩ : ∃ t, Hid (t = ats[k]'hka) := ⟨_, rfl⟩
      rw [← Ht.out] at hc
      have HTG : Hid (ats.getD k 0 = t) := by
        show ats.getD k 0 = t
        rw [Ht.out]
        simp [List.getD, hka]
      have hla := setsL_len hT.pa
      have hlb := setsL_len hT.pb
      have HSa := set_ok wr (k : Int) t hT.a (setsL_ids hT.pa) (by rw [hla]; omega) (by omega) (by omega) (by rw [hla]; omega)
      clear HT
      have HTT : Hid (Two w n ats wa ma wb mb k wr Sa Sb va vb La Lb) := hT
      clear hT Ht hka
      go_wp2_with fail
      refine HSa.mono ?_
      clear HSa
      rintro e w4 ⟨va4, La4, ba, Sa4, rfl, g1, g2, g3, g4⟩
      obtain ⟨g5, g6, g7, g8, g9⟩ := HTT.out.stepA g1 g2 g3 g4 HTG.out
      have HSb := set_ok w4 (k : Int) t g5 (setsL_ids HTT.out.pb) (by rw [hlb]; omega) (by omega) (by omega) (by rw [hlb]; omega)
      have HG : Hid (WhAt w4 Sa4 wa ma (n : Int) 0 ((k : Int) + 1) va4 La4 ∧ (La4.map z0).Perm (setsL ats (k + 1)) ∧ (∀ j, Sa4 j → w.heap.size ≤ j) ∧ (∀ j, Sa4 j → ¬ Sb j) ∧ Below w.heap.size w w4) := ⟨g1, g6, g7, g8, g9⟩
      clear g1 g2 g3 g4 g5 g6 g7 g8 g9
      go_wp2_with fail
      refine HSb.mono ?_
      clear HSb
      rintro e w5 ⟨vb5, Lb5, bb, Sb5, rfl, g1, g2, g3, g4⟩
      have HN : Hid (∃ Sa Sb va vb La Lb, Two w n ats wa ma wb mb (k + 1) w5 Sa Sb va vb La Lb) := by
        obtain ⟨a1, a2, a3, a4, a5⟩ := HG.out
        exact ⟨_, _, _, _, _, _, Two.stepB a1 a2 a3 a4 a5 HTT.out.nb HTT.out.pb g1 g2 g3 g4 HTG.out⟩
      clear g1 g2 g3 g4 HG HTT
      go_wp2
      go_roundw
      case rel => exact ⟨k + 1, by omega, by go_num, HN⟩
      case measure => simp [intOf]; omega
    · have hkn : k = n := by omega
      subst hkn
      have hla := setsL_len hT.pa
      have hlb := setsL_len hT.pb
      have HA1 := adv_ok wr lo hT.a hl0 (by rw [hla]; omega)
      have HTT : Hid (Two w k ats wa ma wb mb k wr Sa Sb va vb La Lb) := hT
      clear HT hT
      go_wp2_with fail
      refine HA1.mono ?_
      clear HA1
      rintro e w4 ⟨r4, va4, xs, Ra, rfl, hWa4, hF4, ho4, hf4⟩
      obtain ⟨ao4, cap4, hr4⟩ := ownsRow_len ho4
      rw [List.length_map] at hr4
      have hlx : xs.length + Ra.length = k := by have := hF4.perm.length_eq; rw [List.length_append] at this; omega
      have HA2 := adv_ok w4 hi hWa4 hle (by omega)
      have H4 : Hid (WhAt w4 Sa wa ma (k : Int) lo (k : Int) va4 Ra ∧ Fires lo La xs Ra ∧ w4.ownsRow wr.heap.size 3 1 r4 (xs.map idV).length (xs.map idV) ∧ Frm Sa wr w4) := ⟨hWa4, hF4, ho4, hf4⟩
      clear hWa4 hF4 ho4 hf4
      subst hr4
      go_wp2_with fail
      refine HA2.mono ?_
      clear HA2
      rintro e w5 ⟨r5, va5, ys, Ra5, rfl, hWa5, hF5, ho5, hf5⟩
      obtain ⟨ao5, cap5, hr5⟩ := ownsRow_len ho5
      rw [List.length_map] at hr5
      have hly : ys.length + Ra5.length = Ra.length := by have := hF5.perm.length_eq; rw [List.length_append] at this; omega
      have HWB5 : Hid (WhAt w5 Sb wb mb (k : Int) 0 (k : Int) vb Lb) := (HTT.out.b.frm H4.out.2.2.2 (fun j hj hj2 => HTT.out.dj j hj2 hj)).frm hf5 (fun j hj hj2 => HTT.out.dj j hj2 hj)
      have HA3 := adv_ok w5 hi HWB5.out hh0 (by rw [hlb]; omega)
      have H5 : Hid (WhAt w5 Sa wa ma (k : Int) hi (k : Int) va5 Ra5 ∧ Fires hi Ra ys Ra5 ∧ w5.ownsRow w4.heap.size 3 1 r5 (ys.map idV).length (ys.map idV) ∧ Frm Sa w4 w5) := ⟨hWa5, hF5, ho5, hf5⟩
      clear hWa5 hF5 ho5 hf5
      subst hr5
      go_wp2_with fail
      refine HA3.mono ?_
      clear HA3
      rintro e w6 ⟨r6, vb6, zs, Rb6, rfl, hWb6, hF6, ho6, hf6⟩
      obtain ⟨ao6, cap6, hr6⟩ := ownsRow_len ho6
      rw [List.length_map] at hr6
      obtain ⟨hids, hlens⟩ := once_pure HTT.out.pa HTT.out.pb hle H4.out.2.1 H5.out.2.1 hF6
      have hlz : zs.length + Rb6.length = k := by have := hF6.perm.length_eq; rw [List.length_append] at this; omega
      have H6 : Hid (WhAt w6 Sa wa ma (k : Int) hi (k : Int) va5 Ra5 ∧ WhAt w6 Sb wb mb (k : Int) hi (k : Int) vb6 Rb6) := ⟨H5.out.1.frm hf6 HTT.out.dj, hWb6⟩
      have HX : Hid (w6.ownsRow wr.heap.size 3 1 (.slice ao4 xs.length cap4) (xs.map idV).length (xs.map idV)) := ownsRow_frm (ownsRow_frm H4.out.2.2.1 H5.out.2.2.2 (fun j hj hs => by have := HTT.out.a.sb j hs; omega)) hf6 (fun j hj hs => by have := HTT.out.b.sb j hs; omega)
      have HY : Hid (w6.ownsRow w4.heap.size 3 1 (.slice ao5 ys.length cap5) (ys.map idV).length (ys.map idV)) := ownsRow_frm H5.out.2.2.1 hf6 (fun j hj hs => by have := HTT.out.b.sb j hs; have := H4.out.2.2.2.size; omega)
      have HZ : Hid (w6.ownsRow w5.heap.size 3 1 r6 (zs.map idV).length (zs.map idV)) := ho6
      have HBL : Hid (Below w.heap.size w w6 ∧ w.heap.size ≤ w6.heap.size) := by
        have h1 := HTT.out.bl
        have h2 := h1.trans (H4.out.2.2.2.toBelow h1.size HTT.out.na)
        have h3 := h2.trans (H5.out.2.2.2.toBelow h2.size HTT.out.na)
        have h4 := h3.trans (hf6.toBelow h3.size HTT.out.nb)
        exact ⟨h4, h4.size⟩
      have HID : Hid (xs.map (·.id) ++ ys.map (·.id) = zs.map (·.id)) := hids
      clear hids hWb6 hF6 ho6 hf6 HWB5 H4 H5 HTT
      subst hr6
      have HLa := wlen_calls w6 H6.out.1
      have HLb := wlen_calls w6 H6.out.2
      rw [← hlens] at HLb
      go_wp2_with fail
      refine HLa.mono ?_
      clear HLa
      rintro e w7 ⟨rfl, rfl⟩
      go_wp2_with fail
      refine HLb.mono ?_
      clear HLb
      rintro e w8 ⟨rfl, rfl⟩
      have hqq : ((Ra5.length : Int) != (Ra5.length : Int)) = false := by simp
      obtain ⟨w9, HW9⟩ : ∃ w9, Hid (w9 = w8.alloc (.cells #[] 3)) := ⟨_, rfl⟩
      have HB9 : Hid (Below w8.heap.size w8 w9 ∧ w9.heap.size = w8.heap.size + 1) := by rw [HW9.out]; exact ⟨(Below.refl _ w8).alloc (Nat.le_refl _) _, by simp [World.size_alloc]⟩
      have HOE : Hid (w9.ownsRow w8.heap.size 3 1 (.slice (some ⟨w8.heap.size, 0, none⟩) 0 0) ([] : List Value).length []) := by
        rw [HW9.out]
        exact ⟨rfl, .inr ⟨w8.heap.size, 0, #[], rfl, Nat.le_refl _, heap_alloc_new w8 _, Nat.le_refl _, by decide, rfl, rfl⟩⟩
      have HX9 : Hid (w9.ownsRow wr.heap.size 3 1 (.slice ao4 xs.length cap4) (xs.map idV).length (xs.map idV)) := by rw [HW9.out]; exact World.ownsRow.alloc HX.out _
      have HY9 : Hid (w9.ownsRow w4.heap.size 3 1 (.slice ao5 ys.length cap5) (ys.map idV).length (ys.map idV)) := by rw [HW9.out]; exact World.ownsRow.alloc HY.out _
      have HZ9 : Hid (w9.ownsRow w5.heap.size 3 1 (.slice ao6 zs.length cap6) (zs.map idV).length (zs.map idV)) := by rw [HW9.out]; exact World.ownsRow.alloc HZ.out _
      have HYl : Hid (∀ j, (Value.slice ao5 ys.length cap5).ownBlock = some j → j < w8.heap.size) := fun j hj => (World.ownsRow.lt HY.out j hj).2
      have HZl : Hid (∀ j, (Value.slice ao6 zs.length cap6).ownBlock = some j → j < w8.heap.size) := fun j hj => (World.ownsRow.lt HZ.out j hj).2
      have hs9 : w8.heap.size ≤ w9.heap.size := HB9.out.1.size
      go_wp2_with (at_builtin; rw [← HW9.out]; refine append_srcT _ rfl (.tmp 92) (.tmp 93) 27 3 (.int .i64 0) 8 Try.underlying27 infoI rfl rfl w8.heap.size _ [] rfl HOE.out wr.heap.size _ (xs.map idV) rfl HX9.out (one_ids xs) (by simp; omega) (by simp; omega) hs9 ?_)
      intro v10 w10 ho10 hg10
      have HO10 : Hid (w10.ownsRow w8.heap.size 3 1 v10 (xs.map idV).length (xs.map idV)) := by
        show w10.ownsRow w8.heap.size 3 1 v10 (xs.map idV).length (xs.map idV)
        simpa using ho10
      have HP10 : Hid (∀ j, v10.ownBlock = some j → w8.heap.size ≤ j) := fun j hj => (World.ownsRow.lt HO10.out j hj).1
      have HY10 : Hid (w10.ownsRow w4.heap.size 3 1 (.slice ao5 ys.length cap5) (ys.map idV).length (ys.map idV)) := ownsRow_keep HY9.out (fun j hj => hg10.grown.block j (by have := HYl.out j hj; omega) (fun e => by have := HYl.out j hj; simp [Value.ownBlock] at e; omega))
      have HZ10 : Hid (w10.ownsRow w5.heap.size 3 1 (.slice ao6 zs.length cap6) (zs.map idV).length (zs.map idV)) := ownsRow_keep HZ9.out (fun j hj => hg10.grown.block j (by have := HZl.out j hj; omega) (fun e => by have := HZl.out j hj; simp [Value.ownBlock] at e; omega))
      have HB10 : Hid (Below w.heap.size w w10 ∧ w8.heap.size ≤ w10.heap.size) := by
        have h9 : Below w.heap.size w w9 := HBL.out.1.trans (HB9.out.1.mono HBL.out.2)
        have h10 : Below w8.heap.size w9 w10 := hg10.toBelow hs9 (fun j hj => by simp [Value.ownBlock] at hj; omega)
        exact ⟨h9.trans (h10.mono HBL.out.2), Nat.le_trans hs9 hg10.grown.size⟩
      have hs10 : w8.heap.size ≤ w10.heap.size := HB10.out.2
      clear ho10 hg10 HX9 HY9 HZ9 HOE
      go_wp2_with (at_builtin; refine append_srcT _ rfl (.tmp 95) (.tmp 96) 27 3 (.int .i64 0) 8 Try.underlying27 infoI rfl rfl w8.heap.size _ (xs.map idV) rfl HO10.out w4.heap.size _ (ys.map idV) rfl HY10.out (one_ids ys) (by simp; omega) (by simp; omega) hs10 ?_)
      intro v11 w11 ho11 hg11
      have HO11 : Hid (w11.ownsRow w8.heap.size 3 1 v11 ((xs ++ ys).map idV).length ((xs ++ ys).map idV)) := by
        show w11.ownsRow w8.heap.size 3 1 v11 ((xs ++ ys).map idV).length ((xs ++ ys).map idV)
        rw [List.map_append]
        simpa using ho11
      have HZ11 : Hid (w11.ownsRow w5.heap.size 3 1 (.slice ao6 zs.length cap6) (zs.map idV).length (zs.map idV)) := ownsRow_keep HZ10.out (fun j hj => hg11.grown.block j (by have := HZl.out j hj; omega) (fun e => by have := HZl.out j hj; have := HP10.out j e.symm; omega))
      have HB11 : Hid (Below w.heap.size w w11) := HB10.out.1.trans ((hg11.toBelow hs10 HP10.out).mono HBL.out.2)
      clear ho11 hg11
      obtain ⟨ao11, cap11, hr11⟩ := ownsRow_len HO11.out
      subst hr11
      have HSm := sameI_calls ao11 ao6 cap11 cap6 ((xs ++ ys).map (·.id)) (zs.map (·.id)) w11 (by simp; omega) (by simp; omega) (IAt.own HO11.out).1 (IAt.own HZ11.out).1
      have hdec : decide ((xs ++ ys).map (·.id) = zs.map (·.id)) = true := by rw [List.map_append, HID.out]; simp
      rw [hdec] at HSm
      simp only [List.length_map, List.length_append] at HSm
      go_wp2_with fail
      refine HSm.mono ?_
      clear HSm
      rintro e w12 ⟨rfl, q12, hw12⟩
      have HB12 : Hid (Below w.heap.size w w12) := by rw [hw12]; exact HB11.out.trans ((below_drawsT w11 q12).mono HB11.out.size)
      clear hw12
      go_wp2
      go_ret
      exact ⟨rfl, HB12.out⟩

set_option maxRecDepth 100000 in
set_option maxHeartbeats 1000000 in
theorem timersOnce_callsB (ao : Option Addr) (cap : Nat) (ats : List Int) (mid end' : Int) (w : World) (hu : UAt w ao ats) (hr : ∀ t ∈ ats, 0 ≤ t ∧ t ≤ 18446744073709551615) (hn : ats.length * 8 ≤ 140737488351232) (h0 : 0 ≤ mid) (h1 : 0 ≤ end') (hbr : end' < mid) :
    Calls Try.prog 5 #[.slice ao ats.length cap, .int .u64 mid, .int .u64 end'] w fun e w' => e = .returned (.bool true) ∧ Below w.heap.size w w' := by
  obtain ⟨lo, Hlo⟩ : ∃ lo, Hid (lo = end') := ⟨_, rfl⟩
  obtain ⟨hi, Hhi⟩ : ∃ hi, Hid (hi = mid) := ⟨_, rfl⟩
  have hle : lo ≤ hi := by rw [Hlo.out, Hhi.out]; omega
  have hl0 : 0 ≤ lo := by rw [Hlo.out]; assumption
  have hh0 : 0 ≤ hi := by rw [Hhi.out]; assumption
  obtain ⟨n, Hn⟩ : ∃ n, Hid (n = ats.length) := ⟨_, rfl⟩
  have HU : Hid (UAt w ao ats) := hu
  have HR : Hid (∀ t ∈ ats, 0 ≤ t ∧ t ≤ 18446744073709551615) := hr
  rw [← Hn.out] at hn ⊢
  have HA := alive_calls w
  clear hu hr
  go_enter Try.func5, Try.ntmps5
  go_wp2_with fail
  refine HA.mono ?_
  clear HA
  rintro e w1 ⟨rfl, hb1⟩
  have HNa := new_calls (n : Int) w1
  go_wp2_with fail
  refine HNa.mono ?_
  clear HNa
  rintro e w2 ⟨wa, ma, rfl, hWa, hb2⟩
  have HNb := new_calls (n : Int) w2
  have hmx : max (n : Int) 0 = (n : Int) := by omega
  rw [hmx] at hWa HNb
  go_wp2_with fail
  refine HNb.mono ?_
  clear HNb
  rintro e w3 ⟨wb, mb, rfl, hWb, hb3⟩
  have HT0 : Hid (∃ Sa Sb va vb La Lb, Two w n ats wa ma wb mb 0 w3 Sa Sb va vb La Lb) :=
    ⟨_, _, _, _, [], [], ⟨hWa.below hb3, hWb, .refl _, .refl _, fun j hj => Nat.le_trans hb1.size hj.1, fun j hj => Nat.le_trans (Nat.le_trans hb1.size hb2.size) hj.1, fun j hj hk => by omega, (hb1.trans (hb2.mono hb1.size)).trans (hb3.mono (Nat.le_trans hb1.size hb2.size))⟩⟩
  clear hWa hWb hb1 hb2 hb3 hmx
  go_upto_region 9 with fail
  rw [← Hlo.out, ← Hhi.out]
  go_loopw [9, 10, 39] (fun _ _ i wr => ∃ k : Nat, k ≤ n ∧ i = .int .i64 (k : Int) ∧ Hid (∃ Sa Sb va vb La Lb, Two w n ats wa ma wb mb k wr Sa Sb va vb La Lb)) (fun _ _ i _ => n - (intOf i).toNat)
  case atStart => exact ⟨0, Nat.zero_le _, rfl, HT0⟩
  case round =>
    clear HT0
    obtain ⟨k, hk, rfl, HT⟩ := hrel
    obtain ⟨Sa, Sb, va, vb, La, Lb, hT⟩ := HT.out
    by_cases hlt : k < n
    · have hka : k < ats.length := by rw [← Hn.out]; exact hlt
      obtain ⟨b, off, rfl, hc⟩ := (HU.out.below hT.bl) k hka
      obtain ⟨t, Ht⟩ : ∃ t, Hid (t = ats[k]'hka) := ⟨_, rfl⟩
      rw [← Ht.out] at hc
      have HTG : Hid (ats.getD k 0 = t) := by
        show ats.getD k 0 = t
        rw [Ht.out]
        simp [List.getD, hka]
      have hla := setsL_len hT.pa
      have hlb := setsL_len hT.pb
      have HSa := set_ok wr (k : Int) t hT.a (setsL_ids hT.pa) (by rw [hla]; omega) (by omega) (by omega) (by rw [hla]; omega)
      clear HT
      have HTT : Hid (Two w n ats wa ma wb mb k wr Sa Sb va vb La Lb) := hT
      clear hT Ht hka
      go_wp2_with fail
      refine HSa.mono ?_
      clear HSa
      rintro e w4 ⟨va4, La4, ba, Sa4, rfl, g1, g2, g3, g4⟩
      obtain ⟨g5, g6, g7, g8, g9⟩ := HTT.out.stepA g1 g2 g3 g4 HTG.out
      have HSb := set_ok w4 (k : Int) t g5 (setsL_ids HTT.out.pb) (by rw [hlb]; omega) (by omega) (by omega) (by rw [hlb]; omega)
      have HG : Hid (WhAt w4 Sa4 wa ma (n : Int) 0 ((k : Int) + 1) va4 La4 ∧ (La4.map z0).Perm (setsL ats (k + 1)) ∧ (∀ j, Sa4 j → w.heap.size ≤ j) ∧ (∀ j, Sa4 j → ¬ Sb j) ∧ Below w.heap.size w w4) := ⟨g1, g6, g7, g8, g9⟩
      clear g1 g2 g3 g4 g5 g6 g7 g8 g9
      go_wp2_with fail
      refine HSb.mono ?_
      clear HSb
      rintro e w5 ⟨vb5, Lb5, bb, Sb5, rfl, g1, g2, g3, g4⟩
      have HN : Hid (∃ Sa Sb va vb La Lb, Two w n ats wa ma wb mb (k + 1) w5 Sa Sb va vb La Lb) := by
        obtain ⟨a1, a2, a3, a4, a5⟩ := HG.out
        exact ⟨_, _, _, _, _, _, Two.stepB a1 a2 a3 a4 a5 HTT.out.nb HTT.out.pb g1 g2 g3 g4 HTG.out⟩
      clear g1 g2 g3 g4 HG HTT
      go_wp2
      go_roundw
      case rel => exact ⟨k + 1, by omega, by go_num, HN⟩
      case measure => simp [intOf]; omega
    · have hkn : k = n := by omega
      subst hkn
      have hla := setsL_len hT.pa
      have hlb := setsL_len hT.pb
      have HA1 := adv_ok wr lo hT.a hl0 (by rw [hla]; omega)
      have HTT : Hid (Two w k ats wa ma wb mb k wr Sa Sb va vb La Lb) := hT
      clear HT hT
      go_wp2_with fail
      refine HA1.mono ?_
      clear HA1
      rintro e w4 ⟨r4, va4, xs, Ra, rfl, hWa4, hF4, ho4, hf4⟩
      obtain ⟨ao4, cap4, hr4⟩ := ownsRow_len ho4
      rw [List.length_map] at hr4
      have hlx : xs.length + Ra.length = k := by have := hF4.perm.length_eq; rw [List.length_append] at this; omega
      have HA2 := adv_ok w4 hi hWa4 hle (by omega)
      have H4 : Hid (WhAt w4 Sa wa ma (k : Int) lo (k : Int) va4 Ra ∧ Fires lo La xs Ra ∧ w4.ownsRow wr.heap.size 3 1 r4 (xs.map idV).length (xs.map idV) ∧ Frm Sa wr w4) := ⟨hWa4, hF4, ho4, hf4⟩
      clear hWa4 hF4 ho4 hf4
      subst hr4
      go_wp2_with fail
      refine HA2.mono ?_
      clear HA2
      rintro e w5 ⟨r5, va5, ys, Ra5, rfl, hWa5, hF5, ho5, hf5⟩
      obtain ⟨ao5, cap5, hr5⟩ := ownsRow_len ho5
      rw [List.length_map] at hr5
      have hly : ys.length + Ra5.length = Ra.length := by have := hF5.perm.length_eq; rw [List.length_append] at this; omega
      have HWB5 : Hid (WhAt w5 Sb wb mb (k : Int) 0 (k : Int) vb Lb) := (HTT.out.b.frm H4.out.2.2.2 (fun j hj hj2 => HTT.out.dj j hj2 hj)).frm hf5 (fun j hj hj2 => HTT.out.dj j hj2 hj)
      have HA3 := adv_ok w5 hi HWB5.out hh0 (by rw [hlb]; omega)
      have H5 : Hid (WhAt w5 Sa wa ma (k : Int) hi (k : Int) va5 Ra5 ∧ Fires hi Ra ys Ra5 ∧ w5.ownsRow w4.heap.size 3 1 r5 (ys.map idV).length (ys.map idV) ∧ Frm Sa w4 w5) := ⟨hWa5, hF5, ho5, hf5⟩
      clear hWa5 hF5 ho5 hf5
      subst hr5
      go_wp2_with fail
      refine HA3.mono ?_
      clear HA3
      rintro e w6 ⟨r6, vb6, zs, Rb6, rfl, hWb6, hF6, ho6, hf6⟩
      obtain ⟨ao6, cap6, hr6⟩ := ownsRow_len ho6
      rw [List.length_map] at hr6
      obtain ⟨hids, hlens⟩ := once_pure HTT.out.pa HTT.out.pb hle H4.out.2.1 H5.out.2.1 hF6
      have hlz : zs.length + Rb6.length = k := by have := hF6.perm.length_eq; rw [List.length_append] at this; omega
      have H6 : Hid (WhAt w6 Sa wa ma (k : Int) hi (k : Int) va5 Ra5 ∧ WhAt w6 Sb wb mb (k : Int) hi (k : Int) vb6 Rb6) := ⟨H5.out.1.frm hf6 HTT.out.dj, hWb6⟩
      have HX : Hid (w6.ownsRow wr.heap.size 3 1 (.slice ao4 xs.length cap4) (xs.map idV).length (xs.map idV)) := ownsRow_frm (ownsRow_frm H4.out.2.2.1 H5.out.2.2.2 (fun j hj hs => by have := HTT.out.a.sb j hs; omega)) hf6 (fun j hj hs => by have := HTT.out.b.sb j hs; omega)
      have HY : Hid (w6.ownsRow w4.heap.size 3 1 (.slice ao5 ys.length cap5) (ys.map idV).length (ys.map idV)) := ownsRow_frm H5.out.2.2.1 hf6 (fun j hj hs => by have := HTT.out.b.sb j hs; have := H4.out.2.2.2.size; omega)
      have HZ : Hid (w6.ownsRow w5.heap.size 3 1 r6 (zs.map idV).length (zs.map idV)) := ho6
      have HBL : Hid (Below w.heap.size w w6 ∧ w.heap.size ≤ w6.heap.size) := by
        have h1 := HTT.out.bl
        have h2 := h1.trans (H4.out.2.2.2.toBelow h1.size HTT.out.na)
        have h3 := h2.trans (H5.out.2.2.2.toBelow h2.size HTT.out.na)
        have h4 := h3.trans (hf6.toBelow h3.size HTT.out.nb)
        exact ⟨h4, h4.size⟩
      have HID : Hid (xs.map (·.id) ++ ys.map (·.id) = zs.map (·.id)) := hids
      clear hids hWb6 hF6 ho6 hf6 HWB5 H4 H5 HTT
      subst hr6
      have HLa := wlen_calls w6 H6.out.1
      have HLb := wlen_calls w6 H6.out.2
      rw [← hlens] at HLb
      go_wp2_with fail
      refine HLa.mono ?_
      clear HLa
      rintro e w7 ⟨rfl, rfl⟩
      go_wp2_with fail
      refine HLb.mono ?_
      clear HLb
      rintro e w8 ⟨rfl, rfl⟩
      have hqq : ((Ra5.length : Int) != (Ra5.length : Int)) = false := by simp
      obtain ⟨w9, HW9⟩ : ∃ w9, Hid (w9 = w8.alloc (.cells #[] 3)) := ⟨_, rfl⟩
      have HB9 : Hid (Below w8.heap.size w8 w9 ∧ w9.heap.size = w8.heap.size + 1) := by rw [HW9.out]; exact ⟨(Below.refl _ w8).alloc (Nat.le_refl _) _, by simp [World.size_alloc]⟩
      have HOE : Hid (w9.ownsRow w8.heap.size 3 1 (.slice (some ⟨w8.heap.size, 0, none⟩) 0 0) ([] : List Value).length []) := by
        rw [HW9.out]
        exact ⟨rfl, .inr ⟨w8.heap.size, 0, #[], rfl, Nat.le_refl _, heap_alloc_new w8 _, Nat.le_refl _, by decide, rfl, rfl⟩⟩
      have HX9 : Hid (w9.ownsRow wr.heap.size 3 1 (.slice ao4 xs.length cap4) (xs.map idV).length (xs.map idV)) := by rw [HW9.out]; exact World.ownsRow.alloc HX.out _
      have HY9 : Hid (w9.ownsRow w4.heap.size 3 1 (.slice ao5 ys.length cap5) (ys.map idV).length (ys.map idV)) := by rw [HW9.out]; exact World.ownsRow.alloc HY.out _
      have HZ9 : Hid (w9.ownsRow w5.heap.size 3 1 (.slice ao6 zs.length cap6) (zs.map idV).length (zs.map idV)) := by rw [HW9.out]; exact World.ownsRow.alloc HZ.out _
      have HYl : Hid (∀ j, (Value.slice ao5 ys.length cap5).ownBlock = some j → j < w8.heap.size) := fun j hj => (World.ownsRow.lt HY.out j hj).2
      have HZl : Hid (∀ j, (Value.slice ao6 zs.length cap6).ownBlock = some j → j < w8.heap.size) := fun j hj => (World.ownsRow.lt HZ.out j hj).2
      have hs9 : w8.heap.size ≤ w9.heap.size := HB9.out.1.size
      go_wp2_with (at_builtin; rw [← HW9.out]; refine append_srcT _ rfl (.tmp 92) (.tmp 93) 27 3 (.int .i64 0) 8 Try.underlying27 infoI rfl rfl w8.heap.size _ [] rfl HOE.out wr.heap.size _ (xs.map idV) rfl HX9.out (one_ids xs) (by simp; omega) (by simp; omega) hs9 ?_)
      intro v10 w10 ho10 hg10
      have HO10 : Hid (w10.ownsRow w8.heap.size 3 1 v10 (xs.map idV).length (xs.map idV)) := by
        show w10.ownsRow w8.heap.size 3 1 v10 (xs.map idV).length (xs.map idV)
        simpa using ho10
      have HP10 : Hid (∀ j, v10.ownBlock = some j → w8.heap.size ≤ j) := fun j hj => (World.ownsRow.lt HO10.out j hj).1
      have HY10 : Hid (w10.ownsRow w4.heap.size 3 1 (.slice ao5 ys.length cap5) (ys.map idV).length (ys.map idV)) := ownsRow_keep HY9.out (fun j hj => hg10.grown.block j (by have := HYl.out j hj; omega) (fun e => by have := HYl.out j hj; simp [Value.ownBlock] at e; omega))
      have HZ10 : Hid (w10.ownsRow w5.heap.size 3 1 (.slice ao6 zs.length cap6) (zs.map idV).length (zs.map idV)) := ownsRow_keep HZ9.out (fun j hj => hg10.grown.block j (by have := HZl.out j hj; omega) (fun e => by have := HZl.out j hj; simp [Value.ownBlock] at e; omega))
      have HB10 : Hid (Below w.heap.size w w10 ∧ w8.heap.size ≤ w10.heap.size) := by
        have h9 : Below w.heap.size w w9 := HBL.out.1.trans (HB9.out.1.mono HBL.out.2)
        have h10 : Below w8.heap.size w9 w10 := hg10.toBelow hs9 (fun j hj => by simp [Value.ownBlock] at hj; omega)
        exact ⟨h9.trans (h10.mono HBL.out.2), Nat.le_trans hs9 hg10.grown.size⟩
      have hs10 : w8.heap.size ≤ w10.heap.size := HB10.out.2
      clear ho10 hg10 HX9 HY9 HZ9 HOE
      go_wp2_with (at_builtin; refine append_srcT _ rfl (.tmp 95) (.tmp 96) 27 3 (.int .i64 0) 8 Try.underlying27 infoI rfl rfl w8.heap.size _ (xs.map idV) rfl HO10.out w4.heap.size _ (ys.map idV) rfl HY10.out (one_ids ys) (by simp; omega) (by simp; omega) hs10 ?_)
      intro v11 w11 ho11 hg11
      have HO11 : Hid (w11.ownsRow w8.heap.size 3 1 v11 ((xs ++ ys).map idV).length ((xs ++ ys).map idV)) := by
        show w11.ownsRow w8.heap.size 3 1 v11 ((xs ++ ys).map idV).length ((xs ++ ys).map idV)
        rw [List.map_append]
        simpa using ho11
      have HZ11 : Hid (w11.ownsRow w5.heap.size 3 1 (.slice ao6 zs.length cap6) (zs.map idV).length (zs.map idV)) := ownsRow_keep HZ10.out (fun j hj => hg11.grown.block j (by have := HZl.out j hj; omega) (fun e => by have := HZl.out j hj; have := HP10.out j e.symm; omega))
      have HB11 : Hid (Below w.heap.size w w11) := HB10.out.1.trans ((hg11.toBelow hs10 HP10.out).mono HBL.out.2)
      clear ho11 hg11
      obtain ⟨ao11, cap11, hr11⟩ := ownsRow_len HO11.out
      subst hr11
      have HSm := sameI_calls ao11 ao6 cap11 cap6 ((xs ++ ys).map (·.id)) (zs.map (·.id)) w11 (by simp; omega) (by simp; omega) (IAt.own HO11.out).1 (IAt.own HZ11.out).1
      have hdec : decide ((xs ++ ys).map (·.id) = zs.map (·.id)) = true := by rw [List.map_append, HID.out]; simp
      rw [hdec] at HSm
      simp only [List.length_map, List.length_append] at HSm
      go_wp2_with fail
      refine HSm.mono ?_
      clear HSm
      rintro e w12 ⟨rfl, q12, hw12⟩
      have HB12 : Hid (Below w.heap.size w w12) := by rw [hw12]; exact HB11.out.trans ((below_drawsT w11 q12).mono HB11.out.size)
      clear hw12
      go_wp2
      go_ret
      exact ⟨rfl, HB12.out⟩
end Go.Proofs.Ytedhjdkhfndinaa
