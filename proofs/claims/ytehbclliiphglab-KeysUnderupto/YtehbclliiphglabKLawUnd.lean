/- The walk of KeysUnder. -/
import Derived.Test.YtehbclliiphglabKUnder
import Derived.Test.YtehbclliiphglabKBegin
import Derived.Test.YtehbclliiphglabKFixed
import Derived.Laws.AppendOwnNone
namespace Go.Proofs.Ytehbclliiphglab
open Go.RowKit
set_option linter.unusedVariables false

set_option maxHeartbeats 400000 in
theorem same_quiet (ao bo : Option Addr) (cap cap2 n n2 : Nat) (ps qs : List Pt) (hn : ps.length = n) (hn2 : qs.length = n2) (w : World) (hl : ps.length ≤ 4398046511104) (hl2 : qs.length ≤ 4398046511104) (hp : PartsAt w ao ps) (hq : PartsAt w bo qs) :
    Calls Try.prog 11 #[.slice ao n cap, .slice bo n2 cap2] w fun e w' => e = .returned (.bool (sameB ps qs)) ∧ ∃ m, w' = w.drewN m := by
  subst hn hn2
  by_cases hle : ps.length = qs.length
  · have hne : ((ps.length : Int) != (qs.length : Int)) = false := by simp; omega
    have HE : Hid (ps.length = qs.length) := hle
    clear hle
    go_enter Try.func11, Try.ntmps11
    go_wp2
    go_loopw [5] (fun i wr => ∃ k m : Nat, k ≤ ps.length ∧ i = .int .i64 k ∧ Hid (ps.take k = qs.take k) ∧ wr = w.drewN m) (fun i _ => ps.length - (intOf i).toNat)
    case atStart => exact ⟨0, 0, Nat.zero_le _, rfl, by simp [Hid], rfl⟩
    case round =>
      obtain ⟨k, m, hk, rfl, HT, rfl⟩ := hrel
      by_cases hlt : k < ps.length
      · have hlt2 : k < qs.length := by have := HE.out; omega
        obtain ⟨b, off, rfl, h0, h1, h2, hwf⟩ := hp k ps[k] (by simp [hlt])
        obtain ⟨b', off', rfl, h0', h1', h2', hwf'⟩ := hq k qs[k] (by simp [hlt2])
        have hli : (k : Int) < (ps.length : Int) := by omega
        have hli2 : (k : Int) < (qs.length : Int) := by omega
        have hrun := run_neq_part ps[k].k ps[k].n qs[k].k qs[k].n ps[k].t qs[k].t
        have hgd := guard_part
        go_wp2
        go_quiet (fail)
        clear hrun hgd
        generalize hbq : ptEq ⟨ps[k].k, ps[k].t, ps[k].n⟩ ⟨qs[k].k, qs[k].t, qs[k].n⟩ = bq
        have HB : Hid (ptEq ps[k] qs[k] = bq) := hbq
        clear hbq
        cases bq with
        | true =>
          have HT2 : Hid (ps.take (k + 1) = qs.take (k + 1)) := by
            show _ = _
            rw [List.take_succ_eq_append_getElem hlt, List.take_succ_eq_append_getElem hlt2, HT.out, (ptEq_iff _ _).1 HB.out]
          go_wp2
          go_roundw
          case rel => exact ⟨k + 1, _, by omega, by go_num, HT2, by first | rfl | exact World.drewN_drewN _ _ _⟩
          case measure => simp [intOf]; omega
        | false =>
          have HN : Hid (¬ ps = qs) := fun h => by
            have h2 := HB.out
            subst h
            rw [(ptEq_iff _ _).2 rfl] at h2
            exact absurd h2 (by decide)
          go_wp2
          go_light
          go_ret
          exact ⟨ret_bool (sameB_ne HN.out), _, by first | rfl | exact World.drewN_drewN _ _ _⟩
      · have HN : Hid (ps = qs) := by
          show _ = _
          have := HT.out
          rwa [List.take_of_length_le (by omega), List.take_of_length_le (by have := HE.out; omega)] at this
        go_wp2
        go_ret
        exact ⟨ret_bool (sameB_eq HN.out), m, rfl⟩
  · have hne : ((ps.length : Int) != (qs.length : Int)) = true := by simp; omega
    have HN : Hid (¬ ps = qs) := fun h => hle (by rw [h])
    clear hle
    go_enter Try.func11, Try.ntmps11
    go_wp2
    go_ret
    exact ⟨ret_bool (sameB_ne HN.out), 0, rfl⟩

theorem pcs_set (ps : List Pt) (n : Nat) (t : ByteArray) (h : n < ps.length) : (pcs ps).set (n * 3 + 1) (.string t) = pcs (ps.set n ⟨ps[n].k, t, ps[n].n⟩) := by
  induction ps generalizing n with
  | nil => simp at h
  | cons p ps ih =>
    have e : ∀ (q : Pt) (l : List Pt), pcs (q :: l) = q.cells ++ pcs l := fun q l => by simp [pcs]
    have hl : p.cells.length = 3 := rfl
    cases n with
    | zero =>
      rw [e p, List.set_cons_zero, e]
      rfl
    | succ n =>
      rw [e p, List.set_cons_succ, e]
      simp only [List.getElem_cons_succ]
      rw [← ih n (by simpa using h), List.set_append_right _ _ (by omega), hl, show (n + 1) * 3 + 1 - 3 = n * 3 + 1 by omega]

theorem OwnP.setText {w : World} {B g m cap : Nat} {ps : List Pt} (h : OwnP w B (.slice (some ⟨g, 0, none⟩) m cap) ps) (hm : ps.length = m) (n : Nat) (hn : n < ps.length) (t : ByteArray) :
    OwnP (w.setCell ⟨g, n * 3 + 1, none⟩ (.string t)) B (.slice (some ⟨g, 0, none⟩) m cap) (ps.set n ⟨ps[n].k, t, ps[n].n⟩) := by
  subst hm
  have := (World.ownsRow.stored h (n * 3 + 1) (.string t)).1
  unfold OwnP
  rw [← pcs_set ps n t hn, List.length_set]
  exact this

theorem PartsAt.cells {w : World} {a : Addr} {ps : List Pt} (h : PartsAt w (some a) ps) : ∀ j u, (pcs ps)[j]? = some u → w.cell? (a.add j) = some u := by
  intro j u hj
  have hjl : j < ps.length * 3 := by
    have := (List.getElem?_eq_some_iff.1 hj).1
    rwa [pcs_length] at this
  have hi : j / 3 < ps.length := by omega
  obtain ⟨b, off, ha, h0, h1, h2, _⟩ := h (j / 3) ps[j / 3] (by simp [hi])
  simp only [Option.some.injEq] at ha
  subst ha
  have hadd : (⟨b, off, none⟩ : Addr).add j = ⟨b, off + j, none⟩ := by unfold Addr.add; split <;> simp_all
  rw [hadd]
  have hp := fun k hk => pcs_at ps (j / 3) ps[j / 3] (by simp [hi]) k hk
  rcases (show j % 3 = 0 ∨ j % 3 = 1 ∨ j % 3 = 2 by omega) with e | e | e
  · have h3 := hp 0 (by omega)
    rw [show j / 3 * 3 + 0 = j by omega] at h3
    rw [h3] at hj
    simp [Pt.cells] at hj
    subst hj
    rw [show off + j = off + j / 3 * 3 by omega]; exact h0
  · have h3 := hp 1 (by omega)
    rw [show j / 3 * 3 + 1 = j by omega] at h3
    rw [h3] at hj
    simp [Pt.cells] at hj
    subst hj
    rw [show off + j = off + j / 3 * 3 + 1 by omega]; exact h1
  · have h3 := hp 2 (by omega)
    rw [show j / 3 * 3 + 2 = j by omega] at h3
    rw [h3] at hj
    simp [Pt.cells] at hj
    subst hj
    rw [show off + j = off + j / 3 * 3 + 2 by omega]; exact h2

/-- append(long, rest...), rest at an address. -/
theorem append_rest (W : World) {ops : Array Oper} {rest : List Oper} {o : Oper} {a : Act} {Q : Exit → Act → World → Prop} (hgd : o.guard = none) (s x : Operand)
    (ho : o.op = .call { callee := .builtin .append, args := #[s, x], argTypes := #[22, 22] })
    (B : Nat) (v : Value) (l : List Pt) (hs : a.eval s = v) (news : List Pt) (ad : Addr) (m c : Nat) (hx : a.eval x = .slice (some ad) m c) (hm : news.length = m)
    (hp : PartsAt W (some ad) news) (hown : OwnP W B v l) (hlen : (l.length + m) * 32 ≤ 140737488355328) (hB : B ≤ W.heap.size)
    (h : ∀ v' w', OwnP w' B v' (l ++ news) → Grew W w' v v' → wpList Try.prog ops Q rest (a.put o.dst v') w') : wpList Try.prog ops Q (o :: rest) a W := by
  obtain ⟨i0, hi, hz0, hz1, hz2⟩ := info_parts info_part
  subst hm
  refine wpList_append_grew _ hgd s x 22 ho B 33 i0 _ 3 32 Try.underlying22 hi hz0 hz1 hz2 rfl (by decide) v l.length (pcs l) hs hown ad news.length c (pcs news) hx (pcs_length _) hp.cells (pcs_one _) (by unfold maxLen; omega) (by omega) hB ?_
  intro v' w' h1 h2 _
  refine h v' w' ?_ h2
  unfold OwnP
  rw [pcs_append, List.length_append]
  exact h1

set_option maxRecDepth 100000 in
set_option maxHeartbeats 2000000 in
theorem under_walk (ao bo : Option Addr) (cap cap2 : Nat) (ps rs : List Pt) (more : ByteArray) (w : World) (hl : ps.length ≤ 1048576) (hl2 : rs.length ≤ 1048576) (hcap : ps.length ≤ cap) (hcap2 : rs.length ≤ cap2) (hnil : bo = none → cap2 = 0) (hp : PartsAt w ao ps) (hq : PartsAt w bo rs)
    (hts : ∀ p ∈ ps, p.t.size ≤ 1048576) (hmo : more.size ≤ 1048576) :
    Calls Try.prog 4 #[.slice ao ps.length cap, .slice bo rs.length cap2, .string more] w fun e w' => e = .returned (.bool true) ∧ Below w.heap.size w w' := by
  have HW : Hid (∀ p ∈ ps, p.wf) := hp.wf
  have HW2 : Hid (∀ p ∈ rs, p.wf) := hq.wf
  have HTS : Hid (∀ p ∈ ps, p.t.size ≤ 1048576) := hts
  clear hts
  go_enter Try.func4, Try.ntmps4
  go_wp2_with fail
  refine (keysFixed_calls w).mono ?_
  rintro e w1 ⟨rfl, hb1⟩
  have hp1 := hp.below hb1
  by_cases hz : ps.length = 0
  · have hz1 : decide ((ps.length : Int) - 1 < 0) = true := by simp; omega
    go_wp2
    all_goals go_light
    all_goals go_ret
    all_goals exact ⟨rfl, hb1⟩
  · obtain ⟨n, hn⟩ : ∃ n, ps.length = n + 1 := ⟨ps.length - 1, by omega⟩
    have hz1 : decide ((ps.length : Int) - 1 < 0) = false := by simp; omega
    have hni : (ps.length : Int) - 1 = (n : Int) := by omega
    obtain ⟨P, hP⟩ : ∃ P, ps[n]? = some P := ⟨_, List.getElem?_eq_getElem (by omega)⟩
    obtain ⟨b, off, rfl, h0, h1, h2, hwf⟩ := hp1 n P hP
    have HN : Hid (ps.length = n + 1) := hn
    have HP : Hid (ps[n]? = some P) := hP
    have hnb : (n : Int) < (ps.length : Int) := by omega
    have hnn : n < ps.length := by omega
    clear hn hP hz
    by_cases hk : P.k = 1
    · have hkb : (P.k != 1) = false := by simpa using hk
      have HK : Hid (P.k = 1) := hk
      clear hk
      go_wp2_with fail
      refine (copied_calls _ cap ps w1 (by omega) hp1).mono ?_
      rintro e w2 ⟨v2, rfl, ho2, hb2⟩
      have hb3 : Below w.heap.size w w2 := hb1.trans (hb2.mono hb1.size)
      obtain ⟨ao2, cap2', hsh⟩ := ho2.shape
      subst hsh
      have hp2 := ho2.parts HW.out
      go_wp2_with fail
      refine (begin_calls ao2 cap2' ps w2 (by omega) hp2).mono ?_
      rintro e w3 ⟨rfl, hb4⟩
      have hb5 : Below w.heap.size w w3 := hb3.trans (hb4.mono hb3.size)
      clear ho2 hp2 hb1 hb2 hb3 hb4 h0 h1 h2 hp1
      go_wp2_with fail
      refine (copied_calls _ cap ps w3 (by omega) (hp.below hb5)).mono ?_
      rintro e w4 ⟨v4, rfl, ho4, hb6⟩
      have hb7 : Below w.heap.size w w4 := hb5.trans (hb6.mono hb5.size)
      obtain ⟨g, cap4, rfl⟩ : ∃ g cap4, v4 = .slice (some ⟨g, 0, none⟩) ps.length cap4 := by
        rcases ho4.2 with ⟨_, h⟩ | ⟨g, cap4, _, h, _⟩
        · omega
        · exact ⟨g, cap4, h⟩
      have hp4 := ho4.parts HW.out
      obtain ⟨gb, goff, hge, c0, c1, c2, _⟩ := hp4 n P HP.out
      simp only [Option.some.injEq, Addr.mk.injEq, and_true] at hge
      obtain ⟨rfl, rfl⟩ := hge
      rw [Nat.zero_add] at c0 c1 c2
      have fz := World.ownsRow.frozenAt ho4 (n * 3 + 1)
      have htsz : P.t.size ≤ 1048576 := HTS.out P (List.mem_of_getElem? HP.out)
      obtain ⟨ls, hls⟩ : ∃ ls, ls = ps.set n ⟨P.k, P.t ++ more, P.n⟩ := ⟨_, rfl⟩
      have ho5 := ho4.setText rfl n hnn (P.t ++ more)
      have hPe : ps[n] = P := by have := HP.out; rw [List.getElem?_eq_getElem hnn] at this; exact Option.some.inj this
      rw [hPe, ← hls] at ho5
      have HLL : Hid (ls.length = ps.length) := by show _ = _; rw [hls]; simp
      have HWL : Hid (∀ p ∈ ls ++ rs, p.wf) := by
        intro p hpm
        rcases List.mem_append.1 hpm with h | h
        · rw [hls] at h
          rcases List.mem_or_eq_of_mem_set h with h | h
          · exact HW.out p h
          · subst h
            refine ⟨hwf.1, hwf.2.1, ?_⟩
            show (P.t ++ more).size ≤ _
            rw [ByteArray.size_append]; omega
        · exact HW2.out p h
      have HSM : Hid (startsB (enc false (ls ++ rs)) (enc true ps) = true) := by
        show _ = _
        have e1 : ps = ps.take n ++ [P] := by
          have := List.take_append_drop n ps
          rw [List.drop_eq_getElem_cons hnn, List.drop_eq_nil_of_le (by have := HN.out; omega), hPe] at this
          exact this.symm
        have e2 : ls ++ rs = ps.take n ++ ⟨P.k, P.t ++ more, P.n⟩ :: rs := by
          rw [hls]
          have h2 : ps.set n ⟨P.k, P.t ++ more, P.n⟩ = ps.take n ++ [⟨P.k, P.t ++ more, P.n⟩] := by
            rw [List.set_eq_take_append_cons_drop, if_pos hnn, List.drop_eq_nil_of_le (by have := HN.out; omega)]
          rw [h2]; simp
        rw [e2]
        have := under_more (ps.take n) rs P ⟨P.k, P.t ++ more, P.n⟩ more.data.toList HK.out HK.out (by show (P.t ++ more).data.toList = _; rw [ByteArray.data_append]; simp)
        rw [← e1] at this
        exact this
      have hb8 : Below w.heap.size w (w4.setCell ⟨g, n * 3 + 1, none⟩ (.string (P.t ++ more))) := hb7.setCell (by have := (ho4.lt g rfl).1; have := hb5.size; show w.heap.size ≤ g; omega) _
      have hq5 := hq.below hb8
      have hsz5 := hb8.size
      have hgs : w3.heap.size ≤ (w4.setCell ⟨g, n * 3 + 1, none⟩ (.string (P.t ++ more))).heap.size := by simpa [World.setCell] using hb6.size
      clear hls hPe
      cases bo with
      | none =>
        have hrs : rs = [] := by
          cases rs with
          | nil => rfl
          | cons r rs => obtain ⟨_, _, h, _⟩ := hq 0 r rfl; simp at h
        subst hrs
        obtain rfl : cap2 = 0 := hnil rfl
        obtain ⟨i0, hi, hz0, hz1, hz2⟩ := info_parts info_part
        go_wp2_with (at_builtin; refine wpList_append_own_none rfl (.tmp 49) (.tmp 50) 22 rfl w3.heap.size 33 i0 3 Try.underlying22 hi _ _ _ rfl ho5 rfl ?_)
        go_wp2_with fail
        obtain ⟨w6, hw6⟩ : ∃ w6, w6 = w4.setCell ⟨g, n * 3 + 1, none⟩ (.string (P.t ++ more)) := ⟨_, rfl⟩
        rw [← hw6] at hb8 ho5 ⊢
        clear hw6
        have hb9 : Below w.heap.size w w6 := hb8
        have hp6 := ho5.parts fun p h => HWL.out p (List.mem_append_left _ h)
        obtain ⟨LR, hLR⟩ : ∃ LR, LR = ls := ⟨_, rfl⟩
        have HLR : Hid (LR.length = ps.length) := by show _ = _; rw [hLR]; exact HLL.out
        have HSM2 : Hid (startsB (enc false LR) (enc true ps) = true) := by show _ = _; have h := HSM.out; rw [List.append_nil] at h; rw [hLR]; exact h
        rw [← hLR] at hp6
        rw [show ps.length = LR.length from HLR.out.symm]
        clear hLR hi hz0 hz1 hz2 i0
        refine (encode_calls _ cap4 LR w6 (by rw [HLR.out]; omega) hp6).mono ?_
        rintro e w7 ⟨rfl, hb10⟩
        have hb11 : Below w.heap.size w w7 := hb9.trans (hb10.mono hb9.size)
        clear hp6 ho5 hb10
        go_wp2_with fail
        refine (copied_calls none 0 [] w7 (by simp) (fun i p h => by simp at h)).mono ?_
        rintro e w8 ⟨v8, rfl, ho8, hb12⟩
        have hb13 : Below w.heap.size w w8 := hb11.trans (hb12.mono hb11.size)
        obtain ⟨ao8, cap8, hsh⟩ := ho8.shape
        subst hsh
        have hp8 := ho8.parts HW2.out
        go_wp2_with fail
        refine (encode_calls ao8 cap8 [] w8 (by simp) hp8).mono ?_
        rintro e w9 ⟨rfl, hb14⟩
        have hb15 : Below w.heap.size w w9 := hb13.trans (hb14.mono hb13.size)
        rw [show encAns false [] = (enc false [], 0) from rfl]
        clear hp8 ho8 hb9 hb11 hb12 hb13 hb14
        rcases encAns_err true ps with he | he
        · obtain ⟨hv1, hle1, hx1⟩ := encAns_ok he
          rw [he, hx1]
          clear he hx1
          rcases encAns_err false LR with hf | hf
          · obtain ⟨hv2, hle2, hx2⟩ := encAns_ok hf
            rw [hf, hx2]
            clear hf hx2
            have HE1 : Hid ((enc true ps).length ≤ 1024) := hle1
            have HK1 : Hid ((enc false LR).length ≤ 1024) := hle2
            have HS1 : Hid (startsB (enc false LR) (enc true ps) = true) := HSM2
            have HS2 : Hid (startsB (enc false []) (enc true ps) = beginsB ps [] n) := under_begins ps [] n HN.out (by simp [HP.out, HK.out]) hv1 rfl HW.out HW2.out
            have HBG : Hid (beginsB ps [] n = false) := by simp [beginsB, Hid]
            clear hv1 hle1 hv2 hle2
            have hlr2 : decide ((n : Int) < 0) = false := by simp
            go_wp2
            go_quiet (fail)
            go_wp2_with fail
            refine (starts_calls ⟨(enc false LR).toArray⟩ ⟨(enc true ps).toArray⟩ _ (by show (enc false LR).toArray.size ≤ _; have := HK1.out; simp; omega) (by show (enc true ps).toArray.size ≤ _; have := HE1.out; simp; omega)).mono ?_
            rintro e x1 ⟨rfl, rfl⟩
            rw [show startsB (⟨(enc false LR).toArray⟩ : ByteArray).data.toList (⟨(enc true ps).toArray⟩ : ByteArray).data.toList = true from HS1.out]
            go_wp2_with fail
            refine (starts_calls ⟨(enc false []).toArray⟩ ⟨(enc true ps).toArray⟩ _ (by show (enc false []).toArray.size ≤ _; simp [enc]) (by show (enc true ps).toArray.size ≤ _; have := HE1.out; simp; omega)).mono ?_
            rintro e x2 ⟨rfl, rfl⟩
            rw [show startsB (⟨(enc false []).toArray⟩ : ByteArray).data.toList (⟨(enc true ps).toArray⟩ : ByteArray).data.toList = false from HS2.out.trans HBG.out]
            go_wp2
            all_goals go_light
            all_goals go_ret
            all_goals exact ⟨by simp, by first | exact below_drewN hb15 _ | exact hb15⟩
          · have hf2 : ((encAns false LR).2 != 0) = true := by simpa [bne] using hf
            clear hf
            go_wp2
            all_goals go_light
            all_goals go_ret
            all_goals exact ⟨rfl, hb15⟩
        · have he2 : ((encAns true ps).2 != 0) = true := by simpa [bne] using he
          clear he
          go_wp2
          all_goals go_light
          all_goals go_ret
          all_goals exact ⟨rfl, hb15⟩
      | some ad =>
        go_wp2_with (at_builtin; refine append_rest _ rfl (.tmp 49) (.tmp 50) rfl w3.heap.size _ ls rfl rs ad _ cap2 rfl rfl hq5 ho5 (by have := HLL.out; omega) hgs ?_)
        intro v6 w6 ho6 hg6
        have hb9 : Below w.heap.size w w6 := hb8.trans ((ho5.toBelow hgs hg6).mono hb5.size)
        clear ho4 ho5 hg6 hp4 c0 c1 c2 fz hb6 hb7 hb8 hq5 hsz5 hgs
        obtain ⟨LR, hLR⟩ : ∃ LR, LR = ls ++ rs := ⟨_, rfl⟩
        rw [← hLR] at ho6 HWL HSM
        have HLR : Hid (LR.length ≤ 4398046511104) := by
          show _ ≤ _
          rw [hLR, List.length_append, HLL.out]; omega
        clear hLR
        have hqr := hq.below hb9
        obtain ⟨ao6, cap6, hsh⟩ := ho6.shape
        subst hsh
        have hp6 := ho6.parts HWL.out
        go_wp2_with fail
        refine (encode_calls ao6 cap6 LR w6 HLR.out hp6).mono ?_
        rintro e w7 ⟨rfl, hb10⟩
        have hb11 : Below w.heap.size w w7 := hb9.trans (hb10.mono hb9.size)
        clear hp6 ho6 hqr hb10
        go_wp2_with fail
        refine (copied_calls (some ad) cap2 rs w7 (by omega) (hq.below hb11)).mono ?_
        rintro e w8 ⟨v8, rfl, ho8, hb12⟩
        have hb13 : Below w.heap.size w w8 := hb11.trans (hb12.mono hb11.size)
        obtain ⟨ao8, cap8, hsh⟩ := ho8.shape
        subst hsh
        have hp8 := ho8.parts HW2.out
        go_wp2_with fail
        refine (encode_calls ao8 cap8 rs w8 (by omega) hp8).mono ?_
        rintro e w9 ⟨rfl, hb14⟩
        have hb15 : Below w.heap.size w w9 := hb13.trans (hb14.mono hb13.size)
        clear hp8 ho8 hb9 hb11 hb12 hb13 hb14
        rcases encAns_err true ps with he | he
        · obtain ⟨hv1, hle1, hx1⟩ := encAns_ok he
          rw [he, hx1]
          clear he hx1
          rcases encAns_err false LR with hf | hf
          · obtain ⟨hv2, hle2, hx2⟩ := encAns_ok hf
            rw [hf, hx2]
            clear hf hx2
            rcases encAns_err false rs with hg' | hg'
            · obtain ⟨hv3, hle3, hx3⟩ := encAns_ok hg'
              rw [hg', hx3]
              clear hg' hx3
              have HE1 : Hid ((enc true ps).length ≤ 1024) := hle1
              have HK1 : Hid ((enc false LR).length ≤ 1024) := hle2
              have HM1 : Hid ((enc false rs).length ≤ 1024) := hle3
              have HS1 : Hid (startsB (enc false LR) (enc true ps) = true) := HSM.out
              have HS2 : Hid (startsB (enc false rs) (enc true ps) = beginsB ps rs n) := under_begins ps rs n HN.out (by simp [HP.out, HK.out]) hv1 hv3 HW.out HW2.out
              clear hv1 hle1 hv2 hle2 hv3 hle3
              -- begins, in four cases
              have hpX := hp.below hb15
              have hqX := hq.below hb15
              clear hp hq
              obtain ⟨_, _, hae, a0, a1, a2, _⟩ := hpX n P HP.out
              simp only [Option.some.injEq, Addr.mk.injEq, and_true] at hae
              obtain ⟨rfl, rfl⟩ := hae
              by_cases hlr : n < rs.length
              · have hlr1 : (n : Int) < (rs.length : Int) := by omega
                have hlr2 : decide ((n : Int) < (rs.length : Int)) = true := by simpa using hlr
                obtain ⟨R, hR⟩ : ∃ R, rs[n]? = some R := ⟨_, List.getElem?_eq_getElem hlr⟩
                obtain ⟨rb, roff, hre, r0, r1, r2, hRwf⟩ := hqX n R hR
                obtain rfl : ad = ⟨rb, roff, none⟩ := Option.some.inj hre
                clear hre
                have HR : Hid (rs[n]? = some R) := hR
                clear hR
                have hc1 : n ≤ cap := by omega
                have hc2 : n ≤ cap2 := by omega
                have hPt : PartsAt w9 (some ⟨b, off, none⟩) (ps.take n) := fun i p hi => hpX i p (by rw [List.getElem?_take] at hi; split at hi <;> simp_all)
                have hRt : PartsAt w9 (some ⟨rb, roff, none⟩) (rs.take n) := fun i p hi => hqX i p (by rw [List.getElem?_take] at hi; split at hi <;> simp_all)
                cases hsb : sameB (rs.take n) (ps.take n) with
                | false =>
                  have hsame : ∀ k, Calls Try.prog 11 #[.slice (some ⟨rb, roff, none⟩) n cap2, .slice (some ⟨b, off, none⟩) n cap] (w9.drewN k) fun e w' => e = .returned (.bool false) ∧ ∃ m, w' = (w9.drewN k).drewN m := fun k => by
                    have := same_quiet (some ⟨rb, roff, none⟩) (some ⟨b, off, none⟩) cap2 cap n n (rs.take n) (ps.take n) (by simp; omega) (by simp; omega) (w9.drewN k) (by simp; omega) (by simp; omega) (hRt.below (below_drewN (Below.refl _ _) k)) (hPt.below (below_drewN (Below.refl _ _) k))
                    rw [hsb] at this; exact this
                  have HBG : Hid (beginsB ps rs n = false) := by simp [beginsB, hsb, Hid]
                  clear hsb
                  go_wp2
                  go_quiet ((go_at_call 11; exact Calls.quiet_of (hsame _)))
                  clear hsame
                  go_wp2_with fail
                  refine (starts_calls ⟨(enc false LR).toArray⟩ ⟨(enc true ps).toArray⟩ _ (by show (enc false LR).toArray.size ≤ _; have := HK1.out; simp; omega) (by show (enc true ps).toArray.size ≤ _; have := HE1.out; simp; omega)).mono ?_
                  rintro e x1 ⟨rfl, rfl⟩
                  rw [show startsB (⟨(enc false LR).toArray⟩ : ByteArray).data.toList (⟨(enc true ps).toArray⟩ : ByteArray).data.toList = true from HS1.out]
                  go_wp2_with fail
                  refine (starts_calls ⟨(enc false rs).toArray⟩ ⟨(enc true ps).toArray⟩ _ (by show (enc false rs).toArray.size ≤ _; have := HM1.out; simp; omega) (by show (enc true ps).toArray.size ≤ _; have := HE1.out; simp; omega)).mono ?_
                  rintro e x2 ⟨rfl, rfl⟩
                  rw [show startsB (⟨(enc false rs).toArray⟩ : ByteArray).data.toList (⟨(enc true ps).toArray⟩ : ByteArray).data.toList = false from HS2.out.trans HBG.out]
                  go_wp2
                  all_goals go_light
                  all_goals go_ret
                  all_goals exact ⟨by simp, by first | exact below_drewN hb15 _ | exact hb15⟩
                | true =>
                  have hsame : ∀ k, Calls Try.prog 11 #[.slice (some ⟨rb, roff, none⟩) n cap2, .slice (some ⟨b, off, none⟩) n cap] (w9.drewN k) fun e w' => e = .returned (.bool true) ∧ ∃ m, w' = (w9.drewN k).drewN m := fun k => by
                    have := same_quiet (some ⟨rb, roff, none⟩) (some ⟨b, off, none⟩) cap2 cap n n (rs.take n) (ps.take n) (by simp; omega) (by simp; omega) (w9.drewN k) (by simp; omega) (by simp; omega) (hRt.below (below_drewN (Below.refl _ _) k)) (hPt.below (below_drewN (Below.refl _ _) k))
                    rw [hsb] at this; exact this
                  by_cases hRk : R.k = 1
                  · have hRb : (R.k == 1) = true := by simpa using hRk
                    have hRsz : R.t.size ≤ 281474976702464 := by have := hRwf.2.2; omega
                    have hPsz : P.t.size ≤ 281474976702464 := by omega
                    cases hsx : startsB R.t.data.toList P.t.data.toList with
                    | true =>
                      have hstt : ∀ k, Calls Try.prog 13 #[.string R.t, .string P.t] (w9.drewN k) fun e w' => e = .returned (.bool true) ∧ w' = w9.drewN k := fun k => by
                        have := starts_calls R.t P.t (w9.drewN k) hRsz hPsz
                        rw [hsx] at this; exact this
                      have HBG : Hid (beginsB ps rs n = true) := by
                        show _ = _
                        unfold beginsB
                        rw [show rs.getD n ⟨0, ⟨#[]⟩, 0⟩ = R by simp [List.getD, HR.out], show ps.getD n ⟨0, ⟨#[]⟩, 0⟩ = P by simp [List.getD, HP.out], hsb, hsx]
                        simp [hlr, hRk]
                      clear hsb hsx hRk
                      go_wp2
                      go_quiet ((first | (go_at_call 11; exact Calls.quiet_of (hsame _)) | (go_at_call 13; exact Calls.quiet_of_same (hstt _))))
                      clear hsame hstt
                      go_wp2_with fail
                      refine (starts_calls ⟨(enc false LR).toArray⟩ ⟨(enc true ps).toArray⟩ _ (by show (enc false LR).toArray.size ≤ _; have := HK1.out; simp; omega) (by show (enc true ps).toArray.size ≤ _; have := HE1.out; simp; omega)).mono ?_
                      rintro e x1 ⟨rfl, rfl⟩
                      rw [show startsB (⟨(enc false LR).toArray⟩ : ByteArray).data.toList (⟨(enc true ps).toArray⟩ : ByteArray).data.toList = true from HS1.out]
                      go_wp2_with fail
                      refine (starts_calls ⟨(enc false rs).toArray⟩ ⟨(enc true ps).toArray⟩ _ (by show (enc false rs).toArray.size ≤ _; have := HM1.out; simp; omega) (by show (enc true ps).toArray.size ≤ _; have := HE1.out; simp; omega)).mono ?_
                      rintro e x2 ⟨rfl, rfl⟩
                      rw [show startsB (⟨(enc false rs).toArray⟩ : ByteArray).data.toList (⟨(enc true ps).toArray⟩ : ByteArray).data.toList = true from HS2.out.trans HBG.out]
                      go_wp2
                      all_goals go_light
                      all_goals go_ret
                      all_goals exact ⟨by simp, by first | exact below_drewN hb15 _ | exact hb15⟩
                    | false =>
                      have hstt : ∀ k, Calls Try.prog 13 #[.string R.t, .string P.t] (w9.drewN k) fun e w' => e = .returned (.bool false) ∧ w' = w9.drewN k := fun k => by
                        have := starts_calls R.t P.t (w9.drewN k) hRsz hPsz
                        rw [hsx] at this; exact this
                      have HBG : Hid (beginsB ps rs n = false) := by simp [beginsB, HP.out, HR.out, hsx, Hid]
                      clear hsb hsx hRk
                      go_wp2
                      go_quiet ((first | (go_at_call 11; exact Calls.quiet_of (hsame _)) | (go_at_call 13; exact Calls.quiet_of_same (hstt _))))
                      clear hsame hstt
                      go_wp2_with fail
                      refine (starts_calls ⟨(enc false LR).toArray⟩ ⟨(enc true ps).toArray⟩ _ (by show (enc false LR).toArray.size ≤ _; have := HK1.out; simp; omega) (by show (enc true ps).toArray.size ≤ _; have := HE1.out; simp; omega)).mono ?_
                      rintro e x1 ⟨rfl, rfl⟩
                      rw [show startsB (⟨(enc false LR).toArray⟩ : ByteArray).data.toList (⟨(enc true ps).toArray⟩ : ByteArray).data.toList = true from HS1.out]
                      go_wp2_with fail
                      refine (starts_calls ⟨(enc false rs).toArray⟩ ⟨(enc true ps).toArray⟩ _ (by show (enc false rs).toArray.size ≤ _; have := HM1.out; simp; omega) (by show (enc true ps).toArray.size ≤ _; have := HE1.out; simp; omega)).mono ?_
                      rintro e x2 ⟨rfl, rfl⟩
                      rw [show startsB (⟨(enc false rs).toArray⟩ : ByteArray).data.toList (⟨(enc true ps).toArray⟩ : ByteArray).data.toList = false from HS2.out.trans HBG.out]
                      go_wp2
                      all_goals go_light
                      all_goals go_ret
                      all_goals exact ⟨by simp, by first | exact below_drewN hb15 _ | exact hb15⟩
                  · have hRb : (R.k == 1) = false := by simpa using hRk
                    have HBG : Hid (beginsB ps rs n = false) := by simp [beginsB, HR.out, hRk, Hid]
                    clear hsb hRk
                    go_wp2
                    go_quiet ((go_at_call 11; exact Calls.quiet_of (hsame _)))
                    clear hsame
                    go_wp2_with fail
                    refine (starts_calls ⟨(enc false LR).toArray⟩ ⟨(enc true ps).toArray⟩ _ (by show (enc false LR).toArray.size ≤ _; have := HK1.out; simp; omega) (by show (enc true ps).toArray.size ≤ _; have := HE1.out; simp; omega)).mono ?_
                    rintro e x1 ⟨rfl, rfl⟩
                    rw [show startsB (⟨(enc false LR).toArray⟩ : ByteArray).data.toList (⟨(enc true ps).toArray⟩ : ByteArray).data.toList = true from HS1.out]
                    go_wp2_with fail
                    refine (starts_calls ⟨(enc false rs).toArray⟩ ⟨(enc true ps).toArray⟩ _ (by show (enc false rs).toArray.size ≤ _; have := HM1.out; simp; omega) (by show (enc true ps).toArray.size ≤ _; have := HE1.out; simp; omega)).mono ?_
                    rintro e x2 ⟨rfl, rfl⟩
                    rw [show startsB (⟨(enc false rs).toArray⟩ : ByteArray).data.toList (⟨(enc true ps).toArray⟩ : ByteArray).data.toList = false from HS2.out.trans HBG.out]
                    go_wp2
                    all_goals go_light
                    all_goals go_ret
                    all_goals exact ⟨by simp, by first | exact below_drewN hb15 _ | exact hb15⟩
              · have hlr2 : decide ((n : Int) < (rs.length : Int)) = false := by simpa using hlr
                have hlr4 : decide (n < rs.length) = false := by simpa using hlr
                have HBG : Hid (beginsB ps rs n = false) := by simp [beginsB, hlr, Hid]
                clear hlr
                go_wp2
                go_quiet (fail)
                go_wp2_with fail
                refine (starts_calls ⟨(enc false LR).toArray⟩ ⟨(enc true ps).toArray⟩ _ (by show (enc false LR).toArray.size ≤ _; have := HK1.out; simp; omega) (by show (enc true ps).toArray.size ≤ _; have := HE1.out; simp; omega)).mono ?_
                rintro e x1 ⟨rfl, rfl⟩
                rw [show startsB (⟨(enc false LR).toArray⟩ : ByteArray).data.toList (⟨(enc true ps).toArray⟩ : ByteArray).data.toList = true from HS1.out]
                go_wp2_with fail
                refine (starts_calls ⟨(enc false rs).toArray⟩ ⟨(enc true ps).toArray⟩ _ (by show (enc false rs).toArray.size ≤ _; have := HM1.out; simp; omega) (by show (enc true ps).toArray.size ≤ _; have := HE1.out; simp; omega)).mono ?_
                rintro e x2 ⟨rfl, rfl⟩
                rw [show startsB (⟨(enc false rs).toArray⟩ : ByteArray).data.toList (⟨(enc true ps).toArray⟩ : ByteArray).data.toList = false from HS2.out.trans HBG.out]
                go_wp2
                all_goals go_light
                all_goals go_ret
                all_goals exact ⟨by simp, by first | exact below_drewN hb15 _ | exact hb15⟩
            · have hg2 : ((encAns false rs).2 != 0) = true := by simpa [bne] using hg'
              clear hg'
              go_wp2
              all_goals go_light
              all_goals go_ret
              all_goals exact ⟨rfl, hb15⟩
          · have hf2 : ((encAns false LR).2 != 0) = true := by simpa [bne] using hf
            clear hf
            go_wp2
            all_goals go_light
            all_goals go_ret
            all_goals exact ⟨rfl, hb15⟩
        · have he2 : ((encAns true ps).2 != 0) = true := by simpa [bne] using he
          clear he
          go_wp2
          all_goals go_light
          all_goals go_ret
          all_goals exact ⟨rfl, hb15⟩
    · have hkb : (P.k != 1) = true := by simpa using hk
      clear hk
      go_wp2
      all_goals go_light
      all_goals go_ret
      all_goals exact ⟨rfl, hb1⟩
end Go.Proofs.Ytehbclliiphglab
