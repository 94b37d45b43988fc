/- Layer 17 (sched): fit, choose, Next. -/
import Derived.Test.YtagdgecmoeacgaaScCh2
namespace Go.Proofs.Ytagdgecmoeacgaa
open Go.RowKit
set_option linter.unusedVariables false
variable {S S' : Nat → Prop}

theorem ChF.draws {w : World} {cb : Nat} {c : Ch} {ao : Option Addr} {cap : Nat} {av : Value} (h : ChF w S cb c ao cap av) (q : Nat) : ChF (w.drewN q) S cb c ao cap av := h.frm (Frm.ofDraws (fun _ => False) w q) (fun _ _ h => h)
theorem ChF.more {w : World} {cb : Nat} {c : Ch} {ao : Option Addr} {cap : Nat} {av : Value} (h : ChF w S cb c ao cap av) (hs : ∀ k, S k → S' k) (hl : ∀ k, S' k → k < w.heap.size) : ChF w S' cb c ao cap av :=
  ⟨h.blk, h.pk, h.room, h.nil, h.ag, hs _ h.scb, fun a e => ⟨hs _ (h.sp a e).1, (h.sp a e).2⟩, fun k e => hs _ (h.sa k e), hl⟩
theorem ChF.avne {w : World} {cb : Nat} {c : Ch} {ao : Option Addr} {cap : Nat} {av : Value} (h : ChF w S cb c ao cap av) : av.ownBlock ≠ some cb := h.ag.ne h.blk (by decide)
/-- The picks are cut. -/
theorem ChF.setPicks {w : World} {cb : Nat} {c : Ch} {ao ao' : Option Addr} {cap cap' : Nat} {av : Value} {ps : List Int} (h : ChF w S cb c ao cap av) (hp : VAt w ao' (ps.map iV)) (hr : ps.length ≤ cap') (hn : ao' = none → cap' = 0) (he : ∀ a, ao' = some a → ∃ a0, ao = some a0 ∧ a.block = a0.block) :
    ChF (w.setCell ⟨cb, 0, none⟩ (.slice ao' ps.length cap')) S cb ⟨ps, c.bound, c.last, c.ages⟩ ao' cap' av ∧ Frm (fun k => k = cb) w (w.setCell ⟨cb, 0, none⟩ (.slice ao' ps.length cap')) := by
  have hF : Frm (fun k => k = cb) w (w.setCell ⟨cb, 0, none⟩ (.slice ao' ps.length cap')) := (Frm.refl _ w).setCell _ _ (.inl rfl)
  refine ⟨⟨?_, hp.frm hF fun a e => ?_, hr, hn, h.ag.frm hF fun k e x => h.avne (by rw [e, x]), h.scb, fun a e => ?_, h.sa, fun k hk => by simpa using h.sb k hk⟩, hF⟩
  · rw [heap_setCell_same w cb 0 _ _ _ h.blk]; simp
  · obtain ⟨a0, e0, e1⟩ := he a e
    rw [e1]; exact (h.sp a0 e0).2.1
  · obtain ⟨a0, e0, e1⟩ := he a e
    rw [e1]; exact h.sp a0 e0
theorem ChF.setLast {w : World} {cb : Nat} {c : Ch} {ao : Option Addr} {cap : Nat} {av : Value} (h : ChF w S cb c ao cap av) (x : Int) :
    ChF (w.setCell ⟨cb, 2, none⟩ (.int .i64 x)) S cb ⟨c.picks, c.bound, x, c.ages⟩ ao cap av ∧ Frm (fun k => k = cb) w (w.setCell ⟨cb, 2, none⟩ (.int .i64 x)) := by
  have hF : Frm (fun k => k = cb) w (w.setCell ⟨cb, 2, none⟩ (.int .i64 x)) := (Frm.refl _ w).setCell _ _ (.inl rfl)
  refine ⟨⟨?_, h.pk.frm hF fun a e => (h.sp a e).2.1, h.room, h.nil, h.ag.frm hF fun k e x => h.avne (by rw [e, x]), h.scb, h.sp, h.sa, fun k hk => by simpa using h.sb k hk⟩, hF⟩
  rw [heap_setCell_same w cb 2 _ _ _ h.blk]; simp
theorem ChF.setAge {w : World} {cb g n ac : Nat} {c : Ch} {ao : Option Addr} {cap : Nat} (h : ChF w S cb c ao cap (.slice (some ⟨g, 0, none⟩) n ac)) (k x : Nat) :
    ChF (w.setCell ⟨g, k, none⟩ (.int .i64 (x : Int))) S cb ⟨c.picks, c.bound, c.last, c.ages.set k x⟩ ao cap (.slice (some ⟨g, 0, none⟩) n ac) ∧ Frm S w (w.setCell ⟨g, k, none⟩ (.int .i64 (x : Int))) := by
  have hF : Frm (fun k => k = g) w (w.setCell ⟨g, k, none⟩ (.int .i64 (x : Int))) := (Frm.refl _ w).setCell _ _ (.inl rfl)
  have hg : S g := h.sa g rfl
  have hne : cb ≠ g := fun e => h.avne (by rw [e]; rfl)
  refine ⟨⟨(hF.block cb (h.sb _ h.scb) hne).trans h.blk, h.pk.frm hF fun a e x => (h.sp a e).2.2 (by rw [x]; rfl), h.room, h.nil, ?_, h.scb, h.sp, h.sa, fun k hk => by simpa using h.sb k hk⟩, hF.weaken fun k _ e => by rw [e]; exact hg⟩
  have := h.ag.stored k (nV x)
  rw [← List.map_set] at this
  exact this

theorem make_int2 (w : World) (n : Nat) (h : n ≤ 17592186044416) : ∃ M : Array Value, (Instr.makeSlice 23 (.int .i64 (n : Int)) (.int .i64 (n : Int))).run Try.prog w = .ok (.slice (some ⟨w.heap.size, 0, none⟩) n n) (w.alloc (.cells M 3)) ∧ M = ((List.replicate n 0).map nV).toArray := by
  obtain ⟨i0, hi, hz0, hz1, hz2⟩ := infoV info_int
  have hr := run_make (P := Try.prog) w 23 3 i0 (.int .i64 0) Try.underlying23 hi hz0 .i64 .i64 (n : Int) (n : Int) (by omega) (Int.le_refl _) (by rw [hz2]; omega) (by omega)
  refine ⟨madeCells (Value.int .i64 0).cells (n * 1), by simpa [hz1] using hr, ?_⟩
  rw [← Array.toList_inj, Nat.mul_one]
  have := toList_madeCells_one (.int .i64 0) n
  rw [List.map_replicate]
  exact this

/-- What fit leaves. -/
def FitW (w : World) (S : Nat → Prop) (cb : Nat) (c : Ch) (n : Nat) (e : Ending) (w' : World) : Prop := e = .returned (.tuple #[]) ∧ (∃ ao cap av, ChF w' (fun k => S k ∨ (w.heap.size ≤ k ∧ k < w'.heap.size)) cb ⟨c.picks, c.bound, c.last, fitP c.ages n⟩ ao cap av) ∧ Frm S w w'
theorem fit_splice (A : List Nat) (n : Nat) : splice ((List.replicate n 0).map nV) 0 ((A.take n).map nV) = (fitP A n).map nV := by
  simp only [splice, fitP, List.take_zero, List.nil_append, List.map_append, Nat.zero_add, List.length_map, List.length_take]
  rw [← List.map_drop, List.drop_replicate]
  congr 3
  omega

set_option maxRecDepth 100000 in
set_option maxHeartbeats 1000000 in
theorem fit_calls (cb n : Nat) (c : Ch) (w : World) (h : ChAt w S cb c) (hn : n ≤ 17592186044416) (hl : c.ages.length ≤ 140737488355328) :
    Calls Try.prog 22 #[.pointer (some ⟨cb, 0, none⟩), .int .i64 (n : Int)] w (FitW w S cb c n) := by
  obtain ⟨ao, cap, av, h⟩ := h
  obtain ⟨ago, ac, rfl, hac, hanil, haz⟩ := h.ag.shape
  rw [List.length_map] at h hac
  obtain ⟨al, Hal⟩ : ∃ al, Hid (al = c.ages.length) := ⟨_, rfl⟩
  rw [← Hal.out] at h hac hl
  have c3 : w.cell? ⟨cb, 3, none⟩ = some (.slice ago al ac) := by rw [cell_blkT h.blk]; rfl
  by_cases he : al = n
  · have HZ : Hid (FitW w S cb c n (.returned (.tuple #[])) w) := by
      refine ⟨rfl, ⟨ao, cap, .slice ago al ac, ?_⟩, Frm.refl _ _⟩
      have e : fitP c.ages n = c.ages := by rw [← he, Hal.out]; exact fitP_self _
      rw [e]
      exact h.more (fun k hk => .inl hk) (fun k hk => by rcases hk with hk | hk; exact h.sb k hk; exact hk.2)
    have hq : ((al : Int) == (n : Int)) = true := by simp; omega
    clear h Hal hac hanil haz
    go_enter Try.func22, Try.ntmps22
    go_wp2
    go_end0
    exact HZ.out
  · have hq : ((al : Int) == (n : Int)) = false := by simp; omega
    have HH : Hid (ChF w S cb c ao cap (.slice ago al ac)) := h
    obtain ⟨M, hmk, HM⟩ := make_int2 w n hn
    have HW : Hid (∃ w1, w1 = w.alloc (.cells M 3)) := ⟨_, rfl⟩
    have hsz : cb < w.heap.size := lt_of_heapT h.blk
    have HG : Hid ((w.alloc (.cells M 3)).heap[w.heap.size]? = some (.cells ((List.replicate n 0).map nV).toArray 3 (0, 0))) := by show _ = _; rw [HM]; exact heap_alloc_new w _
    have HB0 : Hid (Below w.heap.size w (w.alloc (.cells M 3))) := (Below.refl _ _).alloc (Nat.le_refl _) _
    obtain ⟨w1, hw1⟩ : ∃ w1, w1 = w.alloc (.cells M 3) := ⟨_, rfl⟩
    rw [← hw1] at hmk HG HB0
    have c31 : w1.cell? ⟨cb, 3, none⟩ = some (.slice ago al ac) := by rw [HB0.out.cell (p := ⟨cb, 3, none⟩) hsz]; exact c3
    have HV : Hid (VAt w1 ago (c.ages.map nV)) := (h.ag.v).below HB0.out
    obtain ⟨X, HX⟩ : ∃ X, Hid (X = (c.ages.take n).map nV) := ⟨_, rfl⟩
    have hXl : X.length = min al n := by rw [HX.out, List.length_map, List.length_take, ← Hal.out]; omega
    have HXs : Hid (0 < X.length → ∃ ad, ago = some ad ∧ ∀ j v, X[j]? = some v → w1.cell? (ad.add j) = some v) := by
      intro hp
      cases ago with
      | none => have := hanil rfl; omega
      | some ad =>
        refine ⟨ad, rfl, fun j v hj => HV.out.news j v ?_⟩
        rw [HX.out, List.map_take, List.getElem?_take] at hj
        split at hj
        · exact hj
        · cases hj
    have HX1 : Hid (∀ v ∈ X, v.oneCell' = true) := by
      intro v hv
      rw [HX.out] at hv
      exact nV_one _ v hv
    have hXn : X.length ≤ n := by omega
    have HXm : Hid (X.length = Nat.min al n) := hXl
    clear h Hal hac hanil haz hw1 HM HW hXl HV
    go_enter Try.func22, Try.ntmps22
    go_wp2_with (refine wpList_copy_splice rfl (.tmp 14) (.tmp 18) 23 23 rfl 3 Try.underlying23 (by kernel_rfl) (some ⟨w.heap.size, 0, none⟩) ago n n al ac rfl rfl w.heap.size 0 ((List.replicate n 0).map nV) 3 HG.out X HXm.out (fun hp => ⟨rfl, HXs.out hp⟩) (by simp; omega) HX1.out w.heap.size w HB0.out (Nat.le_refl _) ?_)
    intro w2 HG2 hb2
    have HO2 : Hid (Ow w2 w.heap.size 3 (.slice (some ⟨w.heap.size, 0, none⟩) n n) ((fitP c.ages n).map nV)) := by
      have hG := HG2.out
      rw [HX.out, ← List.map_replicate, fit_splice] at hG
      refine ⟨by simp, .inr ⟨w.heap.size, n, _, by rw [List.length_map, fitP_length], Nat.le_refl _, hG, by rw [List.length_map, fitP_length]; exact Nat.le_refl _, by unfold maxLen; omega, by simp [fitP_length], ?_⟩⟩
      rw [List.take_of_length_le (by simp)]
    have HB2 : Hid (Below w.heap.size w w2) := hb2
    have hk2 : w2.heap[cb]? = w.heap[cb]? := hb2.block cb hsz
    have c32 : w2.cell? ⟨cb, 3, none⟩ = some (.slice ago al ac) := by rw [hb2.cell (p := ⟨cb, 3, none⟩) hsz]; exact c3
    have f32 : w2.frozen? ⟨cb, 3, none⟩ = false := frozen_blkT (hk2.trans HH.out.blk)
    have HZ : Hid (FitW w S cb c n (.returned (.tuple #[])) (w2.setCell ⟨cb, 3, none⟩ (.slice (some ⟨w.heap.size, 0, none⟩) n n))) := by
      have hF : Frm (fun k => k = cb) w2 (w2.setCell ⟨cb, 3, none⟩ (.slice (some ⟨w.heap.size, 0, none⟩) n n)) := (Frm.refl _ w2).setCell _ _ (.inl rfl)
      have hg2 : w.heap.size < w2.heap.size := lt_of_heapT HG2.out
      refine ⟨rfl, ⟨ao, cap, .slice (some ⟨w.heap.size, 0, none⟩) n n, ?_, (HH.out.pk.below HB2.out).frm hF (fun a e => (HH.out.sp a e).2.1), HH.out.room, HH.out.nil, ?_, .inl HH.out.scb, fun a e => ⟨.inl (HH.out.sp a e).1, (HH.out.sp a e).2.1, ?_⟩, fun k e => .inr ?_, fun k hk => ?_⟩, (Frm.ofBelow HB2.out S).setCell _ _ (.inl HH.out.scb)⟩
      · rw [heap_setCell_same w2 cb 3 _ _ _ (hk2.trans HH.out.blk)]; simp
      · exact (HO2.out.mono (Nat.zero_le _)).frm hF fun k e x => by
          simp [Value.ownBlock] at e
          omega
      · have := HH.out.sb _ (HH.out.sp a e).1
        simp [Value.ownBlock]; omega
      · simp [Value.ownBlock] at e
        simp; omega
      · rcases hk with hk | hk
        · have := HH.out.sb k hk
          simp; omega
        · exact hk.2
    clear HG2 hb2 HX HXs HX1 HXm hXn HG HB0 hmk c31 hk2
    go_wp2
    go_end0
    exact HZ.out

def chooseP (c : Ch) (r : List Bool) : List Int × Nat × Bool :=
  if (lookP r c.ages).1 = 0 then (c.picks, 0, false) else ((pickP c.picks c.bound c.last c.ages r).1, (pickP c.picks c.bound c.last c.ages r).2, true)
/-- What choose leaves. -/
def ChooseW (w : World) (S : Nat → Prop) (cb : Nat) (c : Ch) (av : Value) (q : List Int × Nat × Bool) (e : Ending) (w' : World) : Prop :=
  e = .returned (.tuple #[.int .i64 (q.2.1 : Int), .bool q.2.2]) ∧ (∃ ao cap, ChF w' S cb ⟨q.1, c.bound, c.last, c.ages⟩ ao cap av) ∧ Frm (fun k => k = cb) w w' ∧ w'.heap.size = w.heap.size

set_option maxRecDepth 100000 in
set_option maxHeartbeats 2000000 in
theorem choose_calls (cb : Nat) (ao : Option Addr) (cap : Nat) (av : Value) (c : Ch) (m : Nat) (ro : Option Addr) (n rc : Nat) (r : List Bool) (w : World) (h : ChF w S cb c ao cap av) (ho : Okc c m) (hn : r.length = n) (hA : c.ages.length = n) (hm : n ≤ 17592186044416) (hr : VAt w ro (r.map bV)) (hdj : ∀ a, ro = some a → a.block ≠ cb) :
    Calls Try.prog 23 #[.pointer (some ⟨cb, 0, none⟩), .slice ro n rc] w (ChooseW w S cb c av (chooseP c r)) := by
  obtain ⟨ago, ac, rfl, hac, hanil, haz⟩ := h.ag.shape
  rw [List.length_map, hA] at h hac ⊢
  have HH : Hid (ChF w S cb c ao cap (.slice ago n ac)) := h
  have c3 : w.cell? ⟨cb, 3, none⟩ = some (.slice ago n ac) := by rw [cell_blkT h.blk]; rfl
  have HL := look_calls cb ago ac c.ages ro n rc r w hn hA (by omega) c3 h.ag.v hr
  have HI : Hid (LkI r c.ages n (lookP r c.ages)) := by rw [← hn]; exact lookP_ok r c.ages
  have HC : Hid ((lookP r c.ages).1 = r.count true) := lookP_count r c.ages
  have HOK : Hid (Okc c m) := ho
  have HR : Hid (VAt w ro (r.map bV)) := hr
  have HN : Hid (r.length = n ∧ c.ages.length = n) := ⟨hn, hA⟩
  have HP : Hid (chooseP c r = if (lookP r c.ages).1 = 0 then (c.picks, 0, false) else ((pickP c.picks c.bound c.last c.ages r).1, (pickP c.picks c.bound c.last c.ages r).2, true)) := rfl
  have HK : Hid (pickP c.picks c.bound c.last c.ages r = if c.bound ≤ ((c.ages.getD (lookP r c.ages).2 0 : Nat) : Int) then (c.picks, (lookP r c.ages).2)
    else match c.picks with
      | p :: ps => (ps, atP r (p % ((lookP r c.ages).1 : Int)).toNat)
      | [] => ([], behP r (c.last + 1).toNat)) := rfl
  obtain ⟨q, Hq⟩ : ∃ q, Hid (q = chooseP c r) := ⟨_, rfl⟩
  rw [← Hq.out] at HP ⊢
  obtain ⟨K, HKq⟩ : ∃ K, Hid (K = pickP c.picks c.bound c.last c.ages r) := ⟨_, rfl⟩
  rw [← HKq.out] at HP HK
  obtain ⟨⟨cn, od⟩, HQ⟩ : ∃ p, Hid (p = lookP r c.ages) := ⟨_, rfl⟩
  rw [← HQ.out] at HL HI HC HP HK
  dsimp only at HL HI HC HP HK
  clear h hac hanil haz hr ho hn hA Hq HKq HQ
  go_enter Try.func23, Try.ntmps23
  go_wp2_with fail
  refine HL.mono ?_
  clear HL
  rintro e w1 ⟨rfl, q1, hw1⟩
  have HH1 : Hid (ChF w1 S cb c ao cap (.slice ago n ac)) := by rw [hw1]; exact HH.out.draws q1
  have HF1 : Hid (Frm (fun k => k = cb) w w1) := by rw [hw1]; exact Frm.ofDraws _ _ _
  have hs1 : w1.heap.size = w.heap.size := by rw [hw1]; simp
  have HR1 : Hid (VAt w1 ro (r.map bV)) := by rw [hw1]; exact HR.out.below (below_drawsT _ _)
  have HS1 : Hid (w1.heap.size = w.heap.size) := hs1
  clear hw1 hs1 HH HR c3
  by_cases h0 : cn = 0
  · subst h0
    have HZ : Hid (q = (c.picks, 0, false)) := by show _ = _; rw [HP.out, if_pos rfl]
    have HE : Hid (ChooseW w S cb c (.slice ago n ac) q (.returned (.tuple #[.int .i64 0, .bool false])) w1) := by
      rw [HZ.out]
      exact ⟨rfl, ⟨ao, cap, HH1.out⟩, HF1.out, HS1.out⟩
    go_wp2
    go_ret2
    exact HE.out
  · have h0q : ((cn : Int) == 0) = false := by simp; omega
    have HZ : Hid (q = (K.1, K.2, true)) := by show _ = _; rw [HP.out, if_neg h0]
    have hod : od < n := HI.out.lt (by dsimp only; omega)
    obtain ⟨ab, ea, hak, -⟩ := HH1.out.ag.at od (by rw [List.length_map, HN.out.2]; exact hod)
    subst ea
    obtain ⟨x, Hx⟩ : ∃ x, Hid (x = c.ages.getD od 0) := ⟨_, rfl⟩
    have ca : w1.cell? ⟨ab, od, none⟩ = some (.int .i64 (x : Int)) := by
      rw [hak, Hx.out, List.getElem_map, List.getD_eq_getElem?_getD, List.getElem?_eq_getElem (by rw [HN.out.2]; exact hod)]; rfl
    have c3 : w1.cell? ⟨cb, 3, none⟩ = some (.slice (some ⟨ab, 0, none⟩) n ac) := by rw [cell_blkT HH1.out.blk]; rfl
    have c1 : w1.cell? ⟨cb, 1, none⟩ = some (.int .i64 c.bound) := by rw [cell_blkT HH1.out.blk]; rfl
    have c2 : w1.cell? ⟨cb, 2, none⟩ = some (.int .i64 c.last) := by rw [cell_blkT HH1.out.blk]; rfl
    have c0 : w1.cell? ⟨cb, 0, none⟩ = some (.slice ao c.picks.length cap) := by rw [cell_blkT HH1.out.blk]; rfl
    rw [← Hx.out] at HK
    clear hak Hx HP
    by_cases hb : c.bound ≤ (x : Int)
    · have HK2 : Hid (K = (c.picks, od)) := by show _ = _; rw [HK.out, if_pos hb]
      have hd : decide ((x : Int) ≥ c.bound) = true := by simp; omega
      have HE : Hid (∀ p, ChooseW w S cb c (.slice (some ⟨ab, 0, none⟩) n ac) q (.returned (.tuple #[.int .i64 (od : Int), .bool true])) (w1.drewN p)) := by
        intro p
        rw [HZ.out, HK2.out]
        exact ⟨rfl, ⟨ao, cap, HH1.out.draws p⟩, HF1.out.trans (Frm.ofDraws _ _ _), by simpa using HS1.out⟩
      clear HK HK2 HZ
      go_wp2_with fail
      go_quiet (fail)
      go_wp2
      go_ret2
      exact HE.out _
    · have hd : decide ((x : Int) ≥ c.bound) = false := by simp; omega
      have hcc : 0 < r.count true := by rw [← HC.out]; omega
      have hc3 : cn ≤ n := HI.out.le
      cases hps : c.picks with
      | nil =>
        have HK2 : Hid (K = ([], behP r (c.last + 1).toNat)) := by show _ = _; rw [HK.out, if_neg hb, hps]
        rw [hps] at c0
        have HB := fun W hv => beh_calls ro n rc r c.last W HN.out.1 (by omega) hv hcc HOK.out.l1 HOK.out.l2
        obtain ⟨bp, Hbp⟩ : ∃ bp, Hid (bp = behP r (c.last + 1).toNat) := ⟨_, rfl⟩
        rw [← Hbp.out] at HK2 HB
        obtain ⟨la, Hla⟩ : ∃ la, Hid (la = c.last) := ⟨_, rfl⟩
        rw [← Hla.out] at c2 HB
        have HE : Hid (∀ p, ChooseW w S cb c (.slice (some ⟨ab, 0, none⟩) n ac) q (.returned (.tuple #[.int .i64 (bp : Int), .bool true])) (w1.drewN p)) := by
          intro p
          have := HH1.out.draws p
          rw [HZ.out, HK2.out, ← hps]
          exact ⟨rfl, ⟨ao, cap, this⟩, HF1.out.trans (Frm.ofDraws _ _ _), by simpa using HS1.out⟩
        have HBH : Hid (∀ (W : World), VAt W ro (List.map bV r) → Calls Try.prog 29 #[.slice ro n rc, .int .i64 la] W fun e w' => e = .returned (.int .i64 (bp : Int)) ∧ w' = W) := HB
        clear HK HK2 HZ HB hps
        go_wp2_with fail
        go_quiet (fail)
        go_wp2_with fail
        refine (HBH.out _ (HR1.out.below (below_drawsT _ _))).mono ?_
        rintro e w2 ⟨rfl, rfl⟩
        go_wp2
        go_ret2
        exact HE.out _
      | cons p ps =>
        have HK2 : Hid (K = (ps, atP r (p % (cn : Int)).toNat)) := by show _ = _; rw [HK.out, if_neg hb, hps]
        have hpl : (p % (cn : Int)).toNat < r.count true := by rw [← HC.out]; exact place_lt (by omega)
        have hao : ∃ b off, ao = some ⟨b, off, none⟩ := by
          obtain ⟨b, off, e, -⟩ := HH1.out.pk 0 (by rw [hps]; simp)
          exact ⟨b, off, e⟩
        obtain ⟨b, off, rfl⟩ := hao
        have HPk : Hid (VAt w1 (some ⟨b, off, none⟩) ((p :: ps).map iV)) := by rw [← hps]; exact HH1.out.pk
        have HRm : Hid (ps.length + 1 ≤ cap) := by show _ ≤ _; have := HH1.out.room; rw [hps] at this; simpa using this
        have HU := fun (W : World) hb1 hv => use_calls cb b off cap cn c.bound c.last (.slice (some ⟨ab, 0, none⟩) n ac) p ps W hb1 hv HRm.out (by omega) (by omega) (HOK.out.pk p (by rw [hps]; simp)).1 (HOK.out.pk p (by rw [hps]; simp)).2
        have HA := fun (W : World) hv => at_calls ro n rc r (p % (cn : Int)).toNat W HN.out.1 (by omega) hv hpl
        obtain ⟨pl, Hpl⟩ : ∃ pl, Hid (pl = (p % (cn : Int)).toNat) := ⟨_, rfl⟩
        rw [← Hpl.out] at HK2 HU HA hpl
        obtain ⟨ch, Hch⟩ : ∃ ch, Hid (ch = atP r pl) := ⟨_, rfl⟩
        rw [← Hch.out] at HK2 HA
        have c0' : w1.cell? ⟨cb, 0, none⟩ = some (.slice (some ⟨b, off, none⟩) (ps.length + 1) cap) := by rw [c0, hps]; rfl
        have HBk : Hid (∀ p, (w1.drewN p).heap[cb]? = some (.cells #[.slice (some ⟨b, off, none⟩) (ps.length + 1) cap, .int .i64 c.bound, .int .i64 c.last, .slice (some ⟨ab, 0, none⟩) n ac] 58)) := by
          intro p
          have := (HH1.out.draws p).blk
          rw [hps] at this
          exact this
        have HE : Hid (∀ (p : Nat) (o c5 : Nat) (W : World), W = (w1.drewN p).setCell ⟨cb, 0, none⟩ (.slice (some ⟨b, o, none⟩) ps.length c5) → VAt (w1.drewN p) (some ⟨b, o, none⟩) (ps.map iV) → ps.length ≤ c5 → ChooseW w S cb c (.slice (some ⟨ab, 0, none⟩) n ac) q (.returned (.tuple #[.int .i64 (ch : Int), .bool true])) W ∧ VAt W ro (r.map bV)) := by
          intro p o c5 W hW hv hc5
          obtain ⟨k1, k2⟩ := (HH1.out.draws p).setPicks hv hc5 (fun x => by cases x) (fun a x => ⟨_, rfl, by cases x; rfl⟩)
          rw [← hW] at k1 k2
          rw [HZ.out, HK2.out]
          exact ⟨⟨rfl, ⟨_, c5, k1⟩, (HF1.out.trans (Frm.ofDraws _ _ _)).trans k2, by rw [hW]; simpa using HS1.out⟩, (HR1.out.below (below_drawsT _ p)).frm k2 hdj⟩
        have HUH : Hid (∀ (W : World), W.heap[cb]? = some (.cells #[.slice (some ⟨b, off, none⟩) (ps.length + 1) cap, .int .i64 c.bound, .int .i64 c.last, .slice (some ⟨ab, 0, none⟩) n ac] 58) → VAt W (some ⟨b, off, none⟩) ((p :: ps).map iV) → Calls Try.prog 28 #[.pointer (some ⟨cb, 0, none⟩), .int .i64 (cn : Int)] W fun e w' => e = .returned (.int .i64 (pl : Int)) ∧ ∃ o c, w' = W.setCell ⟨cb, 0, none⟩ (.slice (some ⟨b, o, none⟩) ps.length c) ∧ VAt W (some ⟨b, o, none⟩) (ps.map iV) ∧ ps.length ≤ c) := HU
        have HAH : Hid (∀ (W : World), VAt W ro (List.map bV r) → Calls Try.prog 27 #[.slice ro n rc, .int .i64 (pl : Int)] W fun e w' => e = .returned (.int .i64 (ch : Int)) ∧ w' = W) := HA
        obtain ⟨lp, Hlp⟩ : ∃ lp, Hid (lp = ps.length) := ⟨_, rfl⟩
        rw [← Hlp.out] at c0'
        have HBH := HBk.out
        clear HK HK2 HZ HU HA c0 hps HBH Hch Hpl hd
        have hd : decide ((x : Int) ≥ c.bound) = false := by simp; omega
        go_wp2_with fail
        go_quiet (fail)
        go_wp2_with fail
        refine (HUH.out _ (HBk.out _) (HPk.out.below (below_drawsT _ _))).mono ?_
        rintro e w2 ⟨rfl, o5, c5, hw2, hv5, hc5⟩
        obtain ⟨HE1, HE2⟩ := HE.out _ o5 c5 w2 hw2 hv5 hc5
        have HEh : Hid (ChooseW w S cb c (.slice (some ⟨ab, 0, none⟩) n ac) q (.returned (.tuple #[.int .i64 (ch : Int), .bool true])) w2) := HE1
        clear HE HE1 hw2 hv5
        go_wp2_with fail
        refine (HAH.out _ HE2).mono ?_
        rintro e w3 ⟨rfl, rfl⟩
        go_wp2
        go_ret2
        exact HEh.out
end Go.Proofs.Ytagdgecmoeacgaa
