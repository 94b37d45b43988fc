/- Layer 4 (walk): rise. -/
import Derived.Test.YtnmndjplbcpglaaXGive
import Derived.Deep.CutRange
namespace Go.Proofs.Ytnmndjplbcpglaa
open Go.RowKit Go.Shelf
set_option linter.unusedVariables false

/-! ### which entries -/
def notLt (b : List UInt8) (e : En) : Bool := !decide (Lt (kyl e) b)
/-- The entries at t and beneath from t's path with lo behind it on. -/
def fil (n : Nat) (t : Tr) (lo : ByteArray) : List En := (ents n t).filter (notLt (t.path ++ kyb lo))
def ownF (t : Tr) (lo : ByteArray) : List En := if lo.size = 0 then ownE t else []
def pcOf (t c : Tr) : ByteArray := c.p.extract t.p.size c.p.size
def kidF (n : Nat) (t : Tr) (lo : ByteArray) (c : Tr) : List En := if bndB (pcOf t c) lo = true then fil n c (bndL (pcOf t c) lo) else []

theorem kyb_empty {lo : ByteArray} (h : lo.size = 0) : kyb lo = [] := List.length_eq_zero_iff.1 (by rw [kyb_len]; exact h)
theorem filter_all {α : Type} {p : α → Bool} {l : List α} (h : ∀ x ∈ l, p x = true) : l.filter p = l := List.filter_eq_self.2 h
theorem filter_none' {α : Type} {p : α → Bool} {l : List α} (h : ∀ x ∈ l, p x = false) : l.filter p = [] := by
  rw [List.filter_eq_nil_iff]; intro a ha; rw [h a ha]; simp
theorem pc_path {t c : Tr} (hw : WF t) (hc : c ∈ t.ks) : c.path = t.path ++ kyb (pcOf t c) := by
  obtain ⟨z, hz⟩ := (hw.ext' c hc).1
  have : kyb (pcOf t c) = c.path.drop t.p.size := by unfold kyb pcOf Tr.path; exact extract_drop _ _
  rw [this, ← hz, ← path_length, List.drop_left]
theorem ownF_fil (t : Tr) (lo : ByteArray) : (ownE t).filter (notLt (t.path ++ kyb lo)) = ownF t lo := by
  unfold ownF
  have hk : ∀ x ∈ ownE t, kyl x = t.path := by
    intro x hx
    unfold ownE at hx
    split at hx
    · simp at hx; subst hx; rfl
    · cases hx
  split
  · rename_i h
    rw [kyb_empty h, List.append_nil]
    exact filter_all fun x hx => by unfold notLt; rw [hk x hx]; simp [lt_irr]
  · rename_i h
    refine filter_none' fun x hx => ?_
    unfold notLt
    rw [hk x hx]
    have : Lt t.path (t.path ++ kyb lo) := pre_lt ⟨_, rfl⟩ (by simp [kyb_len]; omega)
    simp [this]
theorem kid_fil {n : Nat} {t c : Tr} (hw : WF t) (hc : c ∈ t.ks) (lo : ByteArray) : (ents n c).filter (notLt (t.path ++ kyb lo)) = kidF n t lo c := by
  have hp := pc_path hw hc
  have hpre : ∀ x ∈ ents n c, ∃ z, kyl x = t.path ++ kyb (pcOf t c) ++ z := fun x hx => by
    obtain ⟨z, hz⟩ := ents_pre (hw.kids' _ hc) hx
    exact ⟨z, by rw [← hz, hp]⟩
  unfold kidF bndB bndL
  by_cases h : Lt (kyb (pcOf t c)) (kyb lo)
  · rw [if_pos h, if_pos h]
    by_cases hb : begB lo.data.toList (pcOf t c).data.toList = true
    · rw [if_pos hb]
      have hb' : kyb (pcOf t c) <+: kyb lo := List.isPrefixOf_iff_prefix.1 hb
      unfold fil cutB
      rw [if_pos hb]
      have e : kyb (lo.extract (pcOf t c).size lo.size) = (kyb lo).drop (kyb (pcOf t c)).length := by rw [kyb_len]; exact extract_drop _ _
      obtain ⟨z, hz⟩ := hb'
      rw [e, ← hz, List.drop_left, hp, List.append_assoc]
    · rw [if_neg hb]
      have hb' : ¬ kyb (pcOf t c) <+: kyb lo := fun h => hb (List.isPrefixOf_iff_prefix.2 h)
      refine filter_none' fun x hx => ?_
      obtain ⟨z, hz⟩ := hpre x hx
      have : Lt (kyl x) (t.path ++ kyb lo) := by rw [hz, List.append_assoc, lt_common]; exact lt_more h hb' z
      simp [notLt, this]
  · rw [if_neg h, if_neg h, if_pos rfl]
    unfold fil
    rw [filter_all, filter_all]
    · intro x hx
      have : kyb (⟨#[]⟩ : ByteArray) = [] := rfl
      have h2 : ¬ Lt (kyl x) c.path := pre_not_lt (ents_pre (hw.kids' _ hc) hx)
      simp [notLt, this, h2]
    · intro x hx
      obtain ⟨z, hz⟩ := hpre x hx
      have : ¬ Lt (kyl x) (t.path ++ kyb lo) := by rw [hz, List.append_assoc, lt_common]; exact not_lt_more h z
      simp [notLt, this]
theorem flatMap_filter' {α β : Type} (p : β → Bool) (f g : α → List β) : ∀ (l : List α), (∀ a ∈ l, (f a).filter p = g a) → (l.flatMap f).filter p = l.flatMap g
  | [], _ => rfl
  | a :: l, h => by rw [List.flatMap_cons, List.filter_append, h a (by simp), flatMap_filter' p f g l (fun b hb => h b (by simp [hb])), List.flatMap_cons]
theorem fil_succ {n : Nat} {t : Tr} (hw : WF t) (lo : ByteArray) : fil (n + 1) t lo = ownF t lo ++ t.ks.flatMap (kidF n t lo) := by
  unfold fil
  show (ownE t ++ t.ks.flatMap (ents n)).filter _ = _
  rw [List.filter_append, ownF_fil, flatMap_filter' _ _ (kidF n t lo) t.ks (fun c hc => kid_fil hw hc lo)]
/-- From the root on. -/
theorem fil_root {n : Nat} {t : Tr} (hr : t.p = kE) (lo : ByteArray) : fil n t lo = (ents n t).filter (notLt (kyb lo)) := by
  unfold fil; rw [show t.path = [] by unfold Tr.path; rw [hr]]; rfl

theorem bndL_size (pc lo : ByteArray) : (bndL pc lo).size ≤ lo.size := by
  unfold bndL cutB
  split
  · split
    · have := kyb_len (lo.extract pc.size lo.size)
      rw [← this]
      have e : kyb (lo.extract pc.size lo.size) = (kyb lo).drop pc.size := extract_drop _ _
      rw [e, List.length_drop, kyb_len]; omega
    · exact Nat.le_refl _
  · exact Nat.zero_le _
theorem pcOf_size (t c : Tr) : (pcOf t c).size ≤ c.p.size := by
  have := kyb_len (pcOf t c)
  rw [← this]
  have e : kyb (pcOf t c) = (kyb c.p).drop t.p.size := extract_drop _ _
  rw [e, List.length_drop, kyb_len]; omega
/-! ### rise -/
/-- Within rise: what has come. -/
structure Ri0 (w₀ : World) (X : Nat → Prop) (es : List En) (J : List (El es) → World → Prop) (pre : List (El es)) (W : World) (nb : Nat) (t : Tr) (out : List En) (wr : World) : Prop where
  base : Below w₀.heap.size w₀ wr
  size : W.heap.size ≤ wr.heap.size
  kp : Kp w₀.heap.size X W wr
  nblk : wr.heap[nb]? = some (.cells #[.pointer (some ⟨t.a, 0, none⟩)] 63)
  got : ∃ ys : List (El es), ys.map (·.1) = out ∧ J (pre ++ ys) wr
theorem Ri0.keep {w₀ : World} {X : Nat → Prop} {es : List En} {J : List (El es) → World → Prop} (hJ : Abs J) {pre : List (El es)} {W : World} {nb : Nat} {t : Tr} {out : List En} {wr wr' : World} (h : Ri0 w₀ X es J pre W nb t out wr) (hb : Below wr.heap.size wr wr') : Ri0 w₀ X es J pre W nb t out wr' := by
  obtain ⟨ys, h1, h2⟩ := h.got
  exact ⟨h.base.trans (hb.mono h.base.size), Nat.le_trans h.size hb.size, h.kp.trans (Kp.ofBelow hb h.base.size), (hb.block _ (lt_of_heap h.nblk)).trans h.nblk, ys, h1, hJ _ _ _ h2 hb⟩

theorem Ri0.more {w₀ : World} {X : Nat → Prop} {es : List En} {J : List (El es) → World → Prop} {pre : List (El es)} {W : World} {nb : Nat} {t : Tr} {out more : List En} {wr wr' : World} {ys zs : List (El es)} (h : Ri0 w₀ X es J pre W nb t out wr) (hx : ¬ X nb) (hk : Kp w₀.heap.size X wr wr') (hy : ys.map (·.1) = out) (hz : zs.map (·.1) = more) (hj : J (pre ++ ys ++ zs) wr') : Ri0 w₀ X es J pre W nb t (out ++ more) wr' :=
  ⟨h.base.trans hk.below, Nat.le_trans h.size hk.below.size, h.kp.trans hk, (hk.kept _ _ _ h.nblk (.inl rfl) hx).trans h.nblk, ys ++ zs, by rw [List.map_append, hy, hz], by rw [← List.append_assoc]; exact hj⟩
theorem take_flat {α β : Type} (f : α → List β) (l : List α) (j : Nat) (hj : j < l.length) : (l.take (j + 1)).flatMap f = (l.take j).flatMap f ++ f l[j] := by
  rw [List.take_succ_eq_append_getElem hj, List.flatMap_append]; simp
theorem take_flat_pre {α β : Type} (f : α → List β) (l : List α) (j : Nat) : (l.take j).flatMap f <+: l.flatMap f := by
  conv => rhs; rw [← List.take_append_drop j l]
  rw [List.flatMap_append]; exact ⟨_, rfl⟩

set_option maxRecDepth 100000 in
set_option maxHeartbeats 4000000 in
theorem rise_calls (w₀ : World) (l B0 : Nat) (X : Nat → Prop) (es : List En) (J Jx : List (El es) → World → Prop) (hJ : Abs J) (hY : YOk l w₀.heap.size X es J Jx) (hX : ∀ b, X b → b < B0) (n : Nat) :
    ∀ (t : Tr) (lo : ByteArray) (pre : List (El es)) (W : World), Dep n t → WF t → TAt nR w₀ t → Below w₀.heap.size w₀ W → B0 ≤ W.heap.size → J pre W → pre.map (·.1) ++ fil n t lo <+: es → lo.size ≤ 140737488355328 →
    Calls Try.prog 44 #[nodeV t, .string lo, .func (.yield l) #[] #[]] W fun e W' =>
      (e = .returned (.bool true) ∧ ∃ ys : List (El es), ys.map (·.1) = fil n t lo ∧ J (pre ++ ys) W' ∧ Kp w₀.heap.size X W W') ∨ (e = .returned (.bool false) ∧ ∃ ys : List (El es), ys.map (·.1) <+: fil n t lo ∧ Jx (pre ++ ys) W') := by
  induction n with
  | zero => intro t lo pre W hd; cases hd
  | succ n ih =>
    intro t lo pre W hd hw ht hb hB hj hp hlo
    have hnot : ∀ (x : Bool) (w : World), (Op.unary .not (.bool x)).run Try.prog w = .ok (.bool (!x)) w := fun _ _ => rfl
    rw [fil_succ hw] at hp ⊢
    obtain ⟨w1, HW1⟩ : ∃ w1, Hid (w1 = W.alloc (.cells #[.pointer (some ⟨t.a, 0, none⟩)] 63)) := ⟨_, rfl⟩
    have hb1 : Below W.heap.size W w1 := by rw [HW1.out]; exact (Below.refl _ _).alloc (Nat.le_refl _) _
    have q1 : w1.heap[W.heap.size]? = some (.cells #[.pointer (some ⟨t.a, 0, none⟩)] 63) := by rw [HW1.out]; exact heap_alloc_new _ _
    have k1 : w1.cell? ⟨W.heap.size, 0, none⟩ = some (.pointer (some ⟨t.a, 0, none⟩)) := by rw [cell_of_blk q1]; rfl
    have hnx : ¬ X W.heap.size := fun h => by have := hX _ h; omega
    have hb01 : Below w₀.heap.size w₀ w1 := hb.trans (hb1.mono hb.size)
    have HI1 : Hid (Ri0 w₀ X es J pre W W.heap.size t [] w1) := ⟨hb01, hb1.size, Kp.ofBelow hb1 hb.size, q1, [], rfl, by rw [List.append_nil]; exact hJ _ _ _ hj hb1⟩
    have HG : Hid (ownF t lo = ownE t → Calls Try.prog 47 #[nodeV t, .func (.yield l) #[] #[]] w1 fun e W' => (e = .returned (.bool true) ∧ ∃ ys : List (El es), ys.map (·.1) = ownE t ∧ J (pre ++ ys) W' ∧ Kp w₀.heap.size X w1 W') ∨ (e = .returned (.bool false) ∧ ∃ ys : List (El es), ys.map (·.1) <+: ownE t ∧ Jx (pre ++ ys) W')) := fun ho => by
      rw [ho, ← List.append_assoc] at hp
      exact give_calls l w₀.heap.size X es J Jx hJ hY t pre w1 (by have := hb.size; have := hb1.size; omega) (ht.keep hb01) (hJ _ _ _ hj hb1) ((List.prefix_append _ _).trans hp)
    have HT : Hid (TAt nR w₀ t ∧ WF t ∧ Dep (n + 1) t) := ⟨ht, hw, hd⟩
    have IH : Hid _ := ih
    have HES : Hid (pre.map (·.1) ++ (ownF t lo ++ t.ks.flatMap (kidF n t lo)) <+: es) := hp
    have HJ : Hid (Abs J) := hJ
    have hfew := hw.few
    have hpsz := ht.psz'
    clear hb1 q1 ht hw hd ih hp hb hj hb01 hY
    unfold nodeV
    unfold nodeV at HG
    go_enter Try.func44, Try.ntmps44
    go_upto_region 1 with fail
    rw [← HW1.out]
    clear HW1
    go_cut [19] from 12 to 19 (fun s19 wx => (s19 = .bool false ∧ Hid (Ri0 w₀ X es J pre W W.heap.size t (ownF t lo) wx)) ∨ (s19 = .bool true ∧ Hid (∃ ys : List (El es), ys.map (·.1) <+: ownF t lo ∧ Jx (pre ++ ys) wx)))
    case first =>
      by_cases h0 : lo.size = 0
      · have HO : Hid (ownF t lo = ownE t) := if_pos h0
        have hlo' : lo = ⟨#[]⟩ := kyb_inj (kyb_empty h0)
        have HGC := HG.out HO.out
        subst hlo'
        clear HG
        go_wp2_with fail
        refine HGC.mono ?_
        clear HGC
        rintro e w2 (⟨rfl, ys, hy1, hy2, hk2⟩ | ⟨rfl, ys, hy1, hy2⟩)
        · have HR : Hid (Ri0 w₀ X es J pre W W.heap.size t (ownF t ⟨#[]⟩) w2) := by
            have := HI1.out.more (ys := []) (zs := ys) hnx hk2 rfl hy1 (by simpa using hy2)
            rw [HO.out]; exact this
          clear hy1 hy2 hk2
          go_wp2
          go_meet
          exact .inl ⟨rfl, HR⟩
        · have HR : Hid (∃ ys : List (El es), ys.map (·.1) <+: ownF t ⟨#[]⟩ ∧ Jx (pre ++ ys) w2) := ⟨ys, by rw [HO.out]; exact hy1, hy2⟩
          clear hy1 hy2
          go_wp2
          go_meet
          exact .inr ⟨rfl, HR⟩
      · have HO : Hid (ownF t lo = []) := if_neg h0
        have hne : (lo.toList == []) = false := by
          rw [beq_eq_false_iff_ne, ByteArray.toList_eq]
          intro h
          have := congrArg List.length h
          simp at this
          exact h0 (by simpa using this)
        have HR : Hid (Ri0 w₀ X es J pre W W.heap.size t (ownF t lo) w1) := by show Ri0 _ _ _ _ _ _ _ _ _ _; rw [HO.out]; exact HI1.out
        clear HG
        go_wp2_with fail
        go_meet
        exact .inl ⟨rfl, HR⟩
    case rest =>
      clear HG HI1 k1
      rcases hcut with ⟨rfl, HI⟩ | ⟨rfl, HR⟩
      · have k2 : wc.cell? ⟨W.heap.size, 0, none⟩ = some (.pointer (some ⟨t.a, 0, none⟩)) := by rw [cell_of_blk HI.out.nblk]; rfl
        have HP := path_calls (R := nR) t wc (HT.out.1.keep HI.out.base)
        unfold nodeV at HP
        go_wp2_with fail
        refine HP.mono ?_
        clear HP
        rintro e w3 ⟨rfl, hb3⟩
        have HI3 : Hid (Ri0 w₀ X es J pre W W.heap.size t (ownF t lo) w3) := HI.out.keep HJ.out hb3
        have k3 : w3.cell? ⟨W.heap.size, 0, none⟩ = some (.pointer (some ⟨t.a, 0, none⟩)) := by rw [cell_of_blk HI3.out.nblk]; rfl
        have HK := kids_blk (R := nR) t w3 (HT.out.1.keep HI3.out.base) (by omega)
        unfold nodeV at HK
        clear hb3 k2 HI
        go_wp2_with fail
        refine HK.mono ?_
        clear HK
        rintro e w4 ⟨kb, rfl, hb4, hkb, M, hM, hMs, hMc⟩
        have HI4 : Hid (Ri0 w₀ X es J pre W W.heap.size t (ownF t lo ++ (t.ks.take 0).flatMap (kidF n t lo)) w4) := by
          have := HI3.out.keep HJ.out hb4
          show Ri0 _ _ _ _ _ _ _ _ _ _
          simpa using this
        have HM4 : Hid (w4.heap[kb]? = some (.cells M 63)) := hM
        have HMC : Hid (∀ i (h : i < t.ks.length), M[i]? = some (.pointer (some ⟨t.ks[i].a, 0, none⟩))) := hMc
        have hkx : ¬ X kb := fun h => by have h1 := hX _ h; have h2 := HI3.out.size; omega
        clear hb4 hM hMc k3 HI3
        go_wp2_with fail
        go_loopw [26] (fun i wr => ∃ j : Nat, j ≤ t.ks.length ∧ i = .int .i64 j ∧ Hid (Ri0 w₀ X es J pre W W.heap.size t (ownF t lo ++ (t.ks.take j).flatMap (kidF n t lo)) wr) ∧ Hid (wr.heap[kb]? = some (.cells M 63))) (fun i _ => t.ks.length - (intOf i).toNat)
        case atStart => exact ⟨0, Nat.zero_le _, rfl, HI4, HM4⟩
        case round =>
          obtain ⟨j, hj, rfl, HI, HM⟩ := hrel
          clear HI4 HM4
          by_cases hlt : j < t.ks.length
          · have hcm : t.ks[j] ∈ t.ks := List.getElem_mem hlt
            obtain ⟨c, hcc⟩ : ∃ c, c = t.ks[j] := ⟨_, rfl⟩
            rw [← hcc] at hcm
            have kc : wr.cell? ⟨kb, j, none⟩ = some (.pointer (some ⟨c.a, 0, none⟩)) := by rw [cell_of_blk HM.out, HMC.out j hlt, hcc]
            have HCC : Hid (c = t.ks[j]) := hcc
            clear hcc
            obtain ⟨w5, HW5⟩ : ∃ w5, Hid (w5 = wr.alloc (.cells #[.pointer (some ⟨c.a, 0, none⟩)] 63)) := ⟨_, rfl⟩
            have hb5 : Below wr.heap.size wr w5 := by rw [HW5.out]; exact (Below.refl _ _).alloc (Nat.le_refl _) _
            have q5 : w5.heap[wr.heap.size]? = some (.cells #[.pointer (some ⟨c.a, 0, none⟩)] 63) := by rw [HW5.out]; exact heap_alloc_new _ _
            have hTc := HT.out.1.sub' c hcm
            have hWc := HT.out.2.1.kids' c hcm
            have hle : t.p.size ≤ c.p.size := Nat.le_of_lt (HT.out.2.1.ext' c hcm).2
            have hcsz := hTc.psz'
            have HPC := path_calls (R := nR) c w5 (hTc.keep (HI.out.base.trans (hb5.mono HI.out.base.size)))
            unfold nodeV at HPC
            have HB5 : Hid (Below wr.heap.size wr w5) := hb5
            have HQ5 : Hid (w5.heap[wr.heap.size]? = some (.cells #[.pointer (some ⟨c.a, 0, none⟩)] 63)) := q5
            have HTC : Hid (TAt nR w₀ c ∧ WF c) := ⟨hTc, hWc⟩
            clear hb5 q5 hTc hWc
            go_wp2_with fail
            rw [← HW5.out]
            clear HW5
            refine HPC.mono ?_
            clear HPC
            rintro e w6 ⟨rfl, hb6⟩
            have HB6 : Hid (Below wr.heap.size wr w6) := HB5.out.trans (hb6.mono HB5.out.size)
            have HI6 : Hid (Ri0 w₀ X es J pre W W.heap.size t (ownF t lo ++ (t.ks.take j).flatMap (kidF n t lo)) w6) := HI.out.keep HJ.out HB6.out
            have HM6 : Hid (w6.heap[kb]? = some (.cells M 63)) := (HB6.out.block _ (lt_of_heap HM.out)).trans HM.out
            have k6 : w6.cell? ⟨wr.heap.size, 0, none⟩ = some (.pointer (some ⟨c.a, 0, none⟩)) := by rw [hb6.cell (lt_of_heap HQ5.out), cell_of_blk HQ5.out]; rfl
            have HBD := bound_calls (pcOf t c) lo w6 (Nat.le_trans (Nat.le_trans (pcOf_size t c) hcsz) (by decide)) hlo
            obtain ⟨bl, hbl⟩ : ∃ x, x = bndL (pcOf t c) lo := ⟨_, rfl⟩
            obtain ⟨bb, hbb⟩ : ∃ x, x = bndB (pcOf t c) lo := ⟨_, rfl⟩
            rw [← hbl, ← hbb] at HBD
            unfold pcOf at HBD
            have HBL : Hid (bl = bndL (pcOf t c) lo) := hbl
            have HBB : Hid (bb = bndB (pcOf t c) lo) := hbb
            have HPRE : Hid (ownF t lo ++ (t.ks.take j).flatMap (kidF n t lo) ++ kidF n t lo c <+: ownF t lo ++ t.ks.flatMap (kidF n t lo)) := by
              show _ <+: _
              rw [List.append_assoc, HCC.out, ← take_flat _ _ j hlt]
              exact List.prefix_append_right_inj _ |>.2 (take_flat_pre _ _ _)
            have HNX : Hid (ownF t lo ++ (t.ks.take (j + 1)).flatMap (kidF n t lo) = ownF t lo ++ (t.ks.take j).flatMap (kidF n t lo) ++ kidF n t lo c) := by
              show _ = _
              rw [List.append_assoc, HCC.out, ← take_flat _ _ j hlt]
            clear hb6 hbl hbb HB5 HB6 HQ5 HI HM kc
            go_wp2_with fail
            refine HBD.mono ?_
            clear HBD
            rintro e w7 ⟨rfl, hw7⟩
            rw [hw7]
            clear hw7 w7
            cases bb with
            | true =>
              obtain ⟨ys, hy1, hy2⟩ := HI6.out.got
              have hkf : kidF n t lo c = fil n c bl := by unfold kidF; rw [← HBB.out, if_pos rfl, HBL.out]
              have HIH := IH.out c bl (pre ++ ys) w6 (HT.out.2.2 c hcm) HTC.out.2 HTC.out.1 HI6.out.base (Nat.le_trans hB HI6.out.size) hy2 (by rw [List.map_append, hy1, List.append_assoc, ← hkf]; exact ((List.prefix_append_right_inj _).2 HPRE.out).trans HES.out) (by rw [HBL.out]; exact Nat.le_trans (bndL_size _ _) hlo)
              rw [← hkf] at HIH
              have HYS : Hid (ys.map (·.1) = ownF t lo ++ (t.ks.take j).flatMap (kidF n t lo)) := hy1
              unfold nodeV at HIH
              clear hy1 hy2 hkf
              go_wp2_with fail
              refine HIH.mono ?_
              clear HIH
              rintro e w8 (⟨rfl, zs, hz1, hz2, hk8⟩ | ⟨rfl, zs, hz1, hz2⟩)
              · have HI8 : Hid (Ri0 w₀ X es J pre W W.heap.size t (ownF t lo ++ (t.ks.take (j + 1)).flatMap (kidF n t lo)) w8) := by
                  show Ri0 _ _ _ _ _ _ _ _ _ _
                  rw [HNX.out]; exact HI6.out.more hnx hk8 HYS.out hz1 hz2
                have HM8 : Hid (w8.heap[kb]? = some (.cells M 63)) := (hk8.kept _ _ _ HM6.out (.inl rfl) hkx).trans HM6.out
                clear hz1 hz2 hk8 k6 HI6 HM6
                go_wp2_with fail
                go_roundw
                case rel => exact ⟨j + 1, by omega, by go_num, HI8, HM8⟩
                case measure => simp [intOf]; omega
              · have HR : Hid (∃ ys : List (El es), ys.map (·.1) <+: ownF t lo ++ t.ks.flatMap (kidF n t lo) ∧ Jx (pre ++ ys) w8) := by
                  refine ⟨ys ++ zs, ?_, by rw [← List.append_assoc]; exact hz2⟩
                  rw [List.map_append, HYS.out]
                  exact ((List.prefix_append_right_inj _).2 hz1).trans HPRE.out
                clear hz1 hz2 k6 HI6 HM6
                go_wp2_with fail
                go_ret
                obtain ⟨us, hu1, hu2⟩ := HR.out
                exact .inr ⟨rfl, us, hu1, hu2⟩
            | false =>
              have HI8 : Hid (Ri0 w₀ X es J pre W W.heap.size t (ownF t lo ++ (t.ks.take (j + 1)).flatMap (kidF n t lo)) w6) := by
                show Ri0 _ _ _ _ _ _ _ _ _ _
                rw [HNX.out, show kidF n t lo c = [] by unfold kidF; rw [← HBB.out]; rfl, List.append_nil]; exact HI6.out
              clear HI6 k6
              go_wp2_with fail
              go_roundw
              case rel => exact ⟨j + 1, by omega, by go_num, HI8, HM6⟩
              case measure => simp [intOf]; omega
          · have hjl : j = t.ks.length := by omega
            subst hjl
            obtain ⟨ys, hy1, hy2⟩ := HI.out.got
            rw [List.take_length] at hy1
            have HR : Hid (ys.map (·.1) = ownF t lo ++ t.ks.flatMap (kidF n t lo) ∧ J (pre ++ ys) wr ∧ Kp w₀.heap.size X W wr) := ⟨hy1, hy2, HI.out.kp⟩
            clear hy1 hy2
            go_wp2_with fail
            go_ret
            exact .inl ⟨rfl, ys, HR.out.1, HR.out.2.1, HR.out.2.2⟩
      · go_wp2_with fail
        go_ret
        obtain ⟨ys, hy1, hy2⟩ := HR.out
        exact .inr ⟨rfl, ys, hy1.trans ⟨_, rfl⟩, hy2⟩
end Go.Proofs.Ytnmndjplbcpglaa
