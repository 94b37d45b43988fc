/- Layer 3 (radix): Least and Greatest; the law's ends. -/
import Derived.Test.YtcdfbbjakkmmoaaXFrM
import Derived.Test.YtcdfbbjakkmmoaaRLook
import Derived.Test.YtcdfbbjakkmmoaaXBu3
import Derived.Test.YtcdfbbjakkmmoaaRAlike
import Derived.BigQuiet
namespace Go.Proofs.Ytcdfbbjakkmmoaa
open Go.RowKit
set_option linter.unusedVariables false

def lea : Nat → Tr → Tr
  | 0, t => t
  | n + 1, t => if t.v.isSome then t else match t.ks with
    | [] => t
    | c :: _ => lea n c
def gre : Nat → Tr → Tr
  | 0, t => t
  | n + 1, t => match t.ks.getLast? with
    | none => t
    | some c => gre n c
theorem lea_nd : ∀ (n : Nat) {T t : Tr}, Nd T t → Nd T (lea n t)
  | 0, _, _, h => h
  | n + 1, T, t, h => by
    unfold lea
    split
    · exact h
    · split
      · exact h
      · rename_i c l hk
        exact lea_nd n (h.kid (by rw [hk]; exact List.mem_cons_self ..))
theorem gre_nd : ∀ (n : Nat) {T t : Tr}, Nd T t → Nd T (gre n t)
  | 0, _, _, h => h
  | n + 1, T, t, h => by
    unfold gre
    split
    · exact h
    · rename_i c hk
      exact gre_nd n (h.kid (List.mem_of_getLast? hk))
theorem kid_ents {n : Nat} {t c : Tr} (hC : Canon t) (hc : c ∈ t.ks) (hd : Dep n c) : ents n c ≠ [] := fun e => by
  obtain ⟨k, x, hx⟩ := (hC.kids _ hc).some (hC.need _ hc)
  obtain ⟨y, hy, -⟩ := has_ents hx hd
  rw [e] at hy; cases hy
theorem own_some {t : Tr} {y : Vl} (h : t.v = some y) : ownE t = [(t.p, intOf y.x)] := by unfold ownE; rw [h]
theorem own_none {t : Tr} (h : t.v = none) : ownE t = [] := by unfold ownE; rw [h]
theorem held_own {t : Tr} {y : Vl} (hi : AllInt t) (h : t.v = some y) : held t.v = .int .i64 (intOf y.x) := by
  rw [h]
  obtain ⟨m, hm⟩ := hi _ _ (.here h)
  show y.x = _
  rw [hm]; rfl
theorem lea_ents : ∀ {n : Nat} {t : Tr}, Dep n t → Canon t → AllInt t → (ents n t = [] → lea n t = t ∧ t.v = none) ∧ ∀ e l, ents n t = e :: l → (lea n t).p = e.1 ∧ held (lea n t).v = .int .i64 e.2 ∧ (lea n t).v.isSome = true
  | 0, t, hd, _, _ => by cases hd
  | n + 1, t, hd, hC, hi => by
    have he : ents (n + 1) t = ownE t ++ t.ks.flatMap (ents n) := rfl
    cases hv : t.v with
    | some y =>
      have hl : lea (n + 1) t = t := by unfold lea; rw [if_pos (by rw [hv]; rfl)]
      rw [he, own_some hv, hl]
      refine ⟨fun h => by simp at h, fun e l h => ?_⟩
      simp only [List.cons_append, List.nil_append, List.cons.injEq] at h
      obtain ⟨rfl, -⟩ := h
      exact ⟨rfl, held_own hi hv, by rw [hv]; rfl⟩
    | none =>
      rw [he, own_none hv, List.nil_append]
      cases hk : t.ks with
      | nil =>
        have hl : lea (n + 1) t = t := by unfold lea; rw [if_neg (by rw [hv]; simp), hk]
        exact ⟨fun _ => ⟨hl, rfl⟩, fun e l h => by simp at h⟩
      | cons c r =>
        have hl : lea (n + 1) t = lea n c := by conv => lhs; unfold lea
                                                rw [if_neg (by rw [hv]; simp), hk]
        have hc : c ∈ t.ks := by rw [hk]; exact List.mem_cons_self ..
        have hne := kid_ents (n := n) hC hc (hd c hc)
        have ih := lea_ents (hd c hc) (hC.kids _ hc) (hi.kid hc)
        rw [List.flatMap_cons, hl]
        cases hec : ents n c with
        | nil => exact absurd hec hne
        | cons e' l' =>
          refine ⟨fun h => by simp at h, fun e l h => ?_⟩
          simp only [List.cons_append, List.cons.injEq] at h
          obtain ⟨rfl, -⟩ := h
          exact ih.2 _ _ hec
theorem gre_ents : ∀ {n : Nat} {t : Tr}, Dep n t → Canon t → AllInt t → (ents n t = [] → gre n t = t ∧ t.v = none) ∧ ∀ e, (ents n t).getLast? = some e → (gre n t).p = e.1 ∧ held (gre n t).v = .int .i64 e.2 ∧ (gre n t).v.isSome = true
  | 0, t, hd, _, _ => by cases hd
  | n + 1, t, hd, hC, hi => by
    have he : ents (n + 1) t = ownE t ++ t.ks.flatMap (ents n) := rfl
    cases hg : t.ks.getLast? with
    | none =>
      have hk : t.ks = [] := List.getLast?_eq_none_iff.1 hg
      have hl : gre (n + 1) t = t := by unfold gre; rw [hg]
      rw [he, hk, List.flatMap_nil, List.append_nil, hl]
      cases hv : t.v with
      | none => rw [own_none hv]; exact ⟨fun _ => ⟨rfl, rfl⟩, fun e h => by simp at h⟩
      | some y =>
        rw [own_some hv]
        refine ⟨fun h => by simp at h, fun e h => ?_⟩
        simp only [List.getLast?_singleton, Option.some.injEq] at h
        subst h
        exact ⟨rfl, by have := held_own hi hv; rw [hv] at this; exact this, rfl⟩
    | some c =>
      have hc : c ∈ t.ks := List.mem_of_getLast? hg
      have hl : gre (n + 1) t = gre n c := by conv => lhs; unfold gre
                                              rw [hg]
      have hne := kid_ents (n := n) hC hc (hd c hc)
      have ih := gre_ents (hd c hc) (hC.kids _ hc) (hi.kid hc)
      obtain ⟨r, hr⟩ : ∃ r, t.ks = r ++ [c] := by
        obtain ⟨hne', h2⟩ := List.getLast?_eq_some_iff.1 hg
        exact ⟨hne', h2⟩
      have hf : ents (n + 1) t = (ownE t ++ r.flatMap (ents n)) ++ ents n c := by rw [he, hr, List.flatMap_append, List.append_assoc]; simp
      rw [hf, hl]
      refine ⟨fun h => absurd (List.append_eq_nil_iff.1 h).2 hne, fun e h => ?_⟩
      rw [List.getLast?_append] at h
      cases hx : (ents n c).getLast? with
      | none => exact absurd (List.getLast?_eq_none_iff.1 hx) hne
      | some y =>
        rw [hx] at h
        simp at h
        subst h
        exact ih.2 _ hx

/-- How far the node lies from the longest path. -/
def farOf (s : Value) (w : World) : Nat := match s with
  | .pointer (some a) => match w.cell? a with
    | some (.string p) => 140737488351297 - p.size
    | _ => 0
  | _ => 0
theorem farOf_at {R : Rg} {w : World} {t : Tr} (h : TAt R w t) : farOf (.pointer (some ⟨t.a, 0, none⟩)) w = 140737488351297 - t.p.size := by
  obtain ⟨-, -, c0, -, -, -, -, -⟩ := h.cells
  simp [farOf, c0]

set_option maxRecDepth 100000 in
set_option maxHeartbeats 1600000 in
theorem least_tree (tb : Nat) (T : Tr) (ne : Int) (n : Nat) (w : World) (h : TreeAt w tb T ne) (hw : WF T) (hd : Dep n T) :
    Calls Try.prog 59 #[.pointer (some ⟨tb, 0, none⟩)] w fun e w' => e = .returned (.tuple #[.string (lea n T).p, held (lea n T).v, .bool (lea n T).v.isSome]) ∧ Below w.heap.size w w' := by
  have c0 : w.cell? ⟨tb, 0, none⟩ = some (.pointer (some ⟨T.a, 0, none⟩)) := by rw [cell_of_blk h.blk]; rfl
  obtain ⟨L, hL⟩ : ∃ L, L = lea n T := ⟨_, rfl⟩
  rw [← hL]
  have HT : Hid (TAt nR w T ∧ WF T ∧ L = lea n T) := ⟨h.tat, hw, hL⟩
  have HE : Hid (∀ W, Below w.heap.size w W → Calls Try.prog 49 #[.pointer (some ⟨L.a, 0, none⟩)] W fun e w' => e = .returned (.tuple #[.string L.p, held L.v, .bool L.v.isSome]) ∧ w' = W) := fun W hW => entry_tree L W ((h.tat.nd (by rw [hL]; exact lea_nd n .top)).keep hW)
  have H0 : Hid (Nd T T ∧ Dep n T ∧ lea n T = L ∧ Below w.heap.size w w) := ⟨.top, hd, hL.symm, Below.refl _ _⟩
  clear h hw hd hL
  go_enter Try.func59, Try.ntmps59
  go_wp2_with fail
  go_loopw [5] (fun s wr => ∃ (c : Tr) (m : Nat), s = .pointer (some ⟨c.a, 0, none⟩) ∧ Hid (Nd T c ∧ Dep m c ∧ lea m c = L ∧ Below w.heap.size w wr)) (fun s wr => farOf s wr)
  case atStart => exact ⟨T, n, rfl, H0⟩
  case round =>
    obtain ⟨c, m, rfl, HC⟩ := hrel
    clear H0 c0
    obtain ⟨hnd, hdp, hlm, hbw⟩ := HC.out
    have hta : TAt nR wr c := (HT.out.1.nd hnd).keep hbw
    have hwc := hnd.wf HT.out.2.1
    obtain ⟨ao, cap, -, c1, c2, -, hk, -, -⟩ := hta.cells
    have hf := farOf_at hta
    cases m with
    | zero => cases hdp
    | succ m =>
      cases hv : c.v with
      | some y =>
        have hcl : c = L := by rw [← hlm]; unfold lea; rw [if_pos (by rw [hv]; rfl)]
        rw [hv] at c1
        simp only [vptr] at c1
        have HE2 := HE.out wr hbw
        rw [← hcl] at HE2
        rw [hv] at HE2
        have HB : Hid (Below w.heap.size w wr) := hbw
        have HV : Hid (c = L ∧ c.v = some y) := ⟨hcl, hv⟩
        obtain ⟨z, hz⟩ : ∃ z, z = held (some y) := ⟨_, rfl⟩
        rw [← hz] at HE2
        have HZ : Hid (z = held (some y)) := hz
        clear hnd hdp hlm hbw hta hwc hk hf hv hcl hz
        go_wp2_with fail
        refine HE2.mono ?_
        clear HE2
        rintro e w2 ⟨rfl, rfl⟩
        go_wp2_with fail
        refine bodyPost_ret (v := .tuple #[.string c.p, z, .bool true]) (by simp [results, Try.results59, go_sem]) rfl ⟨?_, HB.out⟩
        rw [← HV.out.1, HV.out.2, HZ.out]; rfl
      | none =>
        rw [hv] at c1
        simp only [vptr] at c1
        cases hks : c.ks with
        | nil =>
          have hcl : c = L := by rw [← hlm]; unfold lea; rw [if_neg (by rw [hv]; simp), hks]
          rw [hks] at c2
          have HE2 := HE.out wr hbw
          rw [← hcl] at HE2
          rw [hv] at HE2
          have HB : Hid (Below w.heap.size w wr) := hbw
          have HV : Hid (c = L ∧ c.v = none) := ⟨hcl, hv⟩
          obtain ⟨z, hz⟩ : ∃ z, z = held none := ⟨_, rfl⟩
          rw [← hz] at HE2
          have HZ : Hid (z = held none) := hz
          clear hnd hdp hlm hbw hta hwc hk hf hv hcl hz hks
          go_wp2_with fail
          refine HE2.mono ?_
          clear HE2
          rintro e w2 ⟨rfl, rfl⟩
          go_wp2_with fail
          refine bodyPost_ret (v := .tuple #[.string c.p, z, .bool false]) (by simp [results, Try.results59, go_sem]) rfl ⟨?_, HB.out⟩
          rw [← HV.out.1, HV.out.2, HZ.out]; rfl
        | cons u r =>
          have hcm : u ∈ c.ks := by rw [hks]; exact List.mem_cons_self ..
          have hcl : lea m u = L := by rw [← hlm]; conv => rhs; unfold lea
                                       rw [if_neg (by rw [hv]; simp), hks]
          rw [hks] at c2
          obtain ⟨b, off, hao, hcell, -⟩ := hk 0 (by rw [hks]; simp)
          simp only [hks, List.getElem_cons_zero, Nat.add_zero] at hcell
          subst hao
          obtain ⟨kl, hkl⟩ : ∃ kl, kl = (u :: r).length := ⟨_, rfl⟩
          rw [← hkl] at c2
          have hkp : 0 < kl := by rw [hkl]; simp
          have i1 : (0 : Int) < (kl : Int) := by omega
          have hd1 : decide ((0 : Int) < (kl : Int)) = true := by simpa using hkp
          have HU : Hid (Nd T u ∧ Dep m u ∧ lea m u = L ∧ Below w.heap.size w wr) := ⟨hnd.kid hcm, hdp u hcm, hcl, hbw⟩
          have htu : TAt nR wr u := hta.sub' _ hcm
          have hfu := farOf_at htu
          have hps := htu.psz'
          have hlt := (hwc.ext' _ hcm).2
          have HM : Hid (farOf (.pointer (some ⟨u.a, 0, none⟩)) wr < farOf (.pointer (some ⟨c.a, 0, none⟩)) wr) := by show _ < _; rw [hf, hfu]; omega
          clear hnd hdp hlm hbw hta hwc hk hf hv hcl hks hkl htu hfu hps hlt hcm
          go_wp2_with fail
          go_roundw
          case rel => exact ⟨u, m, rfl, HU⟩
          case measure => exact HM.out

set_option maxRecDepth 100000 in
set_option maxHeartbeats 1600000 in
theorem greatest_tree (tb : Nat) (T : Tr) (ne : Int) (n : Nat) (w : World) (h : TreeAt w tb T ne) (hw : WF T) (hd : Dep n T) :
    Calls Try.prog 60 #[.pointer (some ⟨tb, 0, none⟩)] w fun e w' => e = .returned (.tuple #[.string (gre n T).p, held (gre n T).v, .bool (gre n T).v.isSome]) ∧ Below w.heap.size w w' := by
  have c0 : w.cell? ⟨tb, 0, none⟩ = some (.pointer (some ⟨T.a, 0, none⟩)) := by rw [cell_of_blk h.blk]; rfl
  obtain ⟨L, hL⟩ : ∃ L, L = gre n T := ⟨_, rfl⟩
  rw [← hL]
  have HT : Hid (TAt nR w T ∧ WF T ∧ L = gre n T) := ⟨h.tat, hw, hL⟩
  have HE : Hid (∀ W, Below w.heap.size w W → Calls Try.prog 49 #[.pointer (some ⟨L.a, 0, none⟩)] W fun e w' => e = .returned (.tuple #[.string L.p, held L.v, .bool L.v.isSome]) ∧ w' = W) := fun W hW => entry_tree L W ((h.tat.nd (by rw [hL]; exact gre_nd n .top)).keep hW)
  have H0 : Hid (Nd T T ∧ Dep n T ∧ gre n T = L ∧ Below w.heap.size w w) := ⟨.top, hd, hL.symm, Below.refl _ _⟩
  clear h hw hd hL
  go_enter Try.func60, Try.ntmps60
  go_wp2_with fail
  go_loopw [5] (fun s wr => ∃ (c : Tr) (m : Nat), s = .pointer (some ⟨c.a, 0, none⟩) ∧ Hid (Nd T c ∧ Dep m c ∧ gre m c = L ∧ Below w.heap.size w wr)) (fun s wr => farOf s wr)
  case atStart => exact ⟨T, n, rfl, H0⟩
  case round =>
    obtain ⟨c, m, rfl, HC⟩ := hrel
    clear H0 c0
    obtain ⟨hnd, hdp, hlm, hbw⟩ := HC.out
    have hta : TAt nR wr c := (HT.out.1.nd hnd).keep hbw
    have hwc := hnd.wf HT.out.2.1
    obtain ⟨ao, cap, -, -, c2, -, hk, -, -⟩ := hta.cells
    have hf := farOf_at hta
    have hfew := hwc.few
    cases m with
    | zero => cases hdp
    | succ m =>
      cases hg : c.ks.getLast? with
      | none =>
        have hks : c.ks = [] := List.getLast?_eq_none_iff.1 hg
        have hcl : c = L := by rw [← hlm]; unfold gre; rw [hg]
        rw [hks] at c2
        have HE2 := HE.out wr hbw
        rw [← hcl] at HE2
        have HB : Hid (Below w.heap.size w wr) := hbw
        have HV : Hid (c = L) := hcl
        obtain ⟨z, hz⟩ : ∃ z, z = held c.v := ⟨_, rfl⟩
        obtain ⟨bz, hbz⟩ : ∃ b, b = c.v.isSome := ⟨_, rfl⟩
        rw [← hz, ← hbz] at HE2
        have HZ : Hid (z = held c.v ∧ bz = c.v.isSome) := ⟨hz, hbz⟩
        clear hnd hdp hlm hbw hta hwc hk hf hg hcl hz hbz hks hfew
        go_wp2_with fail
        refine HE2.mono ?_
        clear HE2
        rintro e w2 ⟨rfl, rfl⟩
        go_wp2_with fail
        refine bodyPost_ret (v := .tuple #[.string c.p, z, .bool bz]) (by simp [results, Try.results60, go_sem]) rfl ⟨?_, HB.out⟩
        rw [← HV.out, HZ.out.1, HZ.out.2]
      | some u =>
        have hcm : u ∈ c.ks := List.mem_of_getLast? hg
        have hcl : gre m u = L := by rw [← hlm]; conv => rhs; unfold gre
                                     rw [hg]
        obtain ⟨kl, hkl⟩ : ∃ kl, c.ks.length = kl + 1 := ⟨c.ks.length - 1, by have := List.length_pos_of_mem hcm; omega⟩
        have hlast : c.ks[kl]'(by omega) = u := by
          rw [List.getLast?_eq_getElem?, hkl, Nat.add_sub_cancel] at hg
          exact (List.getElem?_eq_some_iff.1 hg).2
        obtain ⟨b, off, hao, hcell, -⟩ := hk kl (by omega)
        rw [hlast] at hcell
        rw [hkl] at c2
        subst hao
        have hd1 : decide ((0 : Int) < ((kl + 1 : Nat) : Int)) = true := by rw [decide_eq_true_iff]; omega
        have i1 : (0 : Int) ≤ (kl : Int) ∧ (kl : Int) < ((kl + 1 : Nat) : Int) := by omega
        have i5 : (((kl + 1 : Nat) : Int)) - 1 = (kl : Int) := by omega
        have hkle : kl ≤ 256 := by omega
        have HU : Hid (Nd T u ∧ Dep m u ∧ gre m u = L) := ⟨hnd.kid hcm, hdp u hcm, hcl⟩
        have HBW : Hid (Below w.heap.size w wr) := hbw
        have htu : TAt nR wr u := hta.sub' _ hcm
        have hfu := farOf_at htu
        have hps := htu.psz'
        have hlt := (hwc.ext' _ hcm).2
        have HM : Hid (∀ n, farOf (.pointer (some ⟨u.a, 0, none⟩)) (wr.drewN n) < farOf (.pointer (some ⟨c.a, 0, none⟩)) wr) := fun n => by rw [hf, farOf_at (htu.keep (drewN_below wr n))]; omega
        clear hnd hdp hlm hbw hta hwc hk hf hg hcl htu hfu hps hlt hcm hfew hkl hlast
        obtain ⟨k1, hk1⟩ : ∃ k1, k1 = kl + 1 := ⟨_, rfl⟩
        rw [← hk1] at c2 hd1 i1 i5
        clear hk1
        go_wp2_with fail
        go_quiet (fail)
        have HB2 : Hid (Below w.heap.size w (wr.drewN nq)) := HBW.out.trans ((drewN_below wr nq).mono HBW.out.size)
        have HM2 := HM.out nq
        have HM3 : Hid _ := HM2
        clear HM2
        go_wp2_with fail
        go_roundw
        case rel => exact ⟨u, m, rfl, HU.out.1, HU.out.2.1, HU.out.2.2, HB2.out⟩
        case measure => exact HM3.out
end Go.Proofs.Ytcdfbbjakkmmoaa
