import Derived.Test.YtgjcchafmcccjaaDoorRcOpL
import Derived.Test.YtgjcchafmcccjaaDoorRwPut
/- Layer 9 (records): what is fixed stays as it is; small letters and great ones are fixed alike. Plain. -/
namespace Go.Proofs.YtgjcchafmcccjaaDoor
open Go.RowKit

theorem lab_zero {s : ByteArray} (h : labE s = 0) : labB s = true := by
  unfold labE at h
  split at h
  · assumption
  · cases h
theorem lab_again {s : ByteArray} (h : labE s = 0) : labE (labT s) = 0 ∧ labT (labT s) = labT s := by
  rw [(lab_yes (lab_zero h)).1, labE_low, labT_low, (lab_yes (lab_zero h)).1]
  exact ⟨h, rfl⟩
theorem orE_zero {a b : Int} (h : orE a b = 0) : a = 0 ∧ b = 0 := by
  unfold orE at h
  split at h
  · exact ⟨by assumption, h⟩
  · exact absurd h (by assumption)
theorem node_again {n : Nd} (h : nodeE n = 0) : nodeE (fixN n) = 0 ∧ fixN (fixN n) = fixN n := by
  obtain ⟨h1, h2⟩ := orE_zero h
  obtain ⟨k1, k2⟩ := lab_again h1
  have e : fixN n = ⟨labT n.name, n.addr, 0, 0⟩ := if_pos h
  have e2 : nodeE ⟨labT n.name, n.addr, 0, 0⟩ = 0 := by
    unfold nodeE orE
    rw [if_pos k1]
    exact h2
  rw [e]
  refine ⟨e2, ?_⟩
  unfold fixN
  rw [if_pos e2]
  show (⟨labT (labT n.name), n.addr, 0, 0⟩ : Nd) = _
  rw [k2]
theorem lowL_low (x : ByteArray) : lowL (lowS x) = lowL x := by
  unfold lowL
  rw [lowS_low]
theorem tagsOk_low (l : List ByteArray) : tagsOk (l.map lowS) ↔ tagsOk l := by
  unfold tagsOk
  rw [List.length_map]
  constructor
  · rintro ⟨h1, h2⟩
    exact ⟨h1, fun x hx => by rw [← labB_low]; exact h2 _ (List.mem_map_of_mem hx)⟩
  · rintro ⟨h1, h2⟩
    refine ⟨h1, fun x hx => ?_⟩
    obtain ⟨y, hy, rfl⟩ := List.mem_map.1 hx
    rw [labB_low]
    exact h2 y hy
theorem tagsE_low (l : List ByteArray) : tagsE (l.map lowS) = tagsE l := by
  by_cases h : tagsOk l
  · rw [(tags_yes h).1, (tags_yes ((tagsOk_low l).2 h)).1]
  · rw [(tags_no h).1, (tags_no (fun e => h ((tagsOk_low l).1 e))).1]
theorem tagsL_low (l : List ByteArray) : tagsL (l.map lowS) = tagsL l := by
  by_cases h : tagsOk l
  · rw [(tags_yes h).2, (tags_yes ((tagsOk_low l).2 h)).2, List.map_map]
    have : lowL ∘ lowS = lowL := funext lowL_low
    rw [this]
  · rw [(tags_no h).2, (tags_no (fun e => h ((tagsOk_low l).1 e))).2]
theorem tagsB_low (l : List ByteArray) : tagsB (l.map lowS) = tagsB l := by
  unfold tagsB
  rw [tagsL_low]
theorem tagsL_put {l : List ByteArray} (h : tagsOk l) : tagsL l = putAll (l.map lowL) := (tags_yes h).2.trans (compact_putAll _)
theorem tagsL_rising (l : List ByteArray) : Rising (tagsL l) := by
  by_cases h : tagsOk l
  · rw [tagsL_put h]; exact putAll_rising _
  · rw [(tags_no h).2]; exact List.Pairwise.nil
theorem tagsL_mem {l : List ByteArray} (h : tagsOk l) (y : List UInt8) : y ∈ tagsL l ↔ ∃ x ∈ l, lowL x = y := by
  rw [tagsL_put h, putAll_mem, List.mem_map]
theorem tagsB_mem {l : List ByteArray} (h : tagsOk l) {y : ByteArray} (hy : y ∈ tagsB l) : ∃ x ∈ l, lowS x = y := by
  unfold tagsB at hy
  obtain ⟨b, hb, rfl⟩ := List.mem_map.1 hy
  obtain ⟨x, hx, rfl⟩ := (tagsL_mem h b).1 hb
  exact ⟨x, hx, rfl⟩
theorem tagsOk_again {l : List ByteArray} (h : tagsOk l) : tagsOk (tagsB l) := by
  refine ⟨?_, fun y hy => ?_⟩
  · rw [tagsB_len, (tags_yes h).2]
    refine Nat.le_trans (compact_le _) ?_
    rw [List.length_mergeSort, List.length_map]
    exact h.1
  · obtain ⟨x, hx, rfl⟩ := tagsB_mem h hy
    rw [labB_low]
    exact h.2 x hx
theorem tagsB_lowL {l : List ByteArray} (h : tagsOk l) : (tagsB l).map lowL = tagsL l := by
  unfold tagsB
  rw [List.map_map]
  conv => rhs; rw [← List.map_id (tagsL l)]
  refine List.map_congr_left fun b hb => ?_
  obtain ⟨x, hx, rfl⟩ := (tagsL_mem h b).1 hb
  exact lowL_low x
theorem tagsL_again {l : List ByteArray} (h : tagsOk l) : tagsL (tagsB l) = tagsL l := by
  rw [tagsL_put (tagsOk_again h), tagsB_lowL h]
  exact rising_uniq (putAll_rising _) (tagsL_rising l) fun y => putAll_mem _ y
theorem tagsB_again {l : List ByteArray} (h : tagsOk l) : tagsB (tagsB l) = tagsB l := by
  have := tagsL_again h
  unfold tagsB at this ⊢
  rw [this]
theorem tags_zero {l : List ByteArray} (h : tagsE l = 0) : tagsOk l := by
  unfold tagsE at h
  split at h
  · assumption
  · cases h
theorem svc_again {s : Sp} (h : svcE s = 0) : svcE (svcF s) = 0 ∧ svcF (svcF s) = svcF s := by
  obtain ⟨h1, h2, h3, h4⟩ := svc_parts h
  obtain ⟨i1, i2⟩ := orE_zero h1
  obtain ⟨a1, a2⟩ := lab_again i1
  obtain ⟨b1, b2⟩ := lab_again i2
  obtain ⟨c1, c2⟩ := lab_again h2
  have ht := tags_zero h4
  rw [svc_yes h]
  have e : svcE ⟨labT s.node, labT s.id, labT s.name, s.port, tagsB s.tags, 0, 0⟩ = 0 := by
    unfold svcE
    simp only [firstE, orE, idE, a1, b1, c1, h3, (tags_yes (tagsOk_again ht)).1, if_true]
  refine ⟨e, ?_⟩
  rw [svc_yes e]
  simp only [a2, b2, c2, tagsB_again ht]
end Go.Proofs.YtgjcchafmcccjaaDoor

/- Layer 9 (records): an operation that is fixed stays as it is; great letters and small ones are fixed alike. Plain. -/
namespace Go.Proofs.YtgjcchafmcccjaaDoor
open Go.RowKit

theorem sp_again {s : ByteArray} (h : spE s = 0) : spE (spT s) = 0 ∧ spT (spT s) = spT s := by
  by_cases hz : s.size = 0
  · have e : spT s = ⟨#[]⟩ := by unfold spT; rw [if_pos hz]
    rw [e]
    exact ⟨rfl, rfl⟩
  · have e : spT s = labT s := by unfold spT; rw [if_neg hz]
    have e2 : spE s = labE s := by unfold spE; rw [if_neg hz]
    rw [e2] at h
    obtain ⟨k1, k2⟩ := lab_again h
    have hz2 : ¬ (labT s).size = 0 := by
      rw [(lab_yes (lab_zero h)).1, lowS_size]
      exact hz
    rw [e]
    refine ⟨?_, ?_⟩
    · unfold spE; rw [if_neg hz2]; exact k1
    · conv => lhs; unfold spT
      rw [if_neg hz2]
      exact k2
theorem chk_again {c : Ck} (h : chkE c = 0) : chkE (chkF c) = 0 ∧ chkF (chkF c) = chkF c := by
  obtain ⟨h1, h2, h3, h4⟩ := chk_parts h
  obtain ⟨i1, i2⟩ := orE_zero h1
  obtain ⟨a1, a2⟩ := lab_again i1
  obtain ⟨b1, b2⟩ := lab_again i2
  obtain ⟨c1, c2⟩ := sp_again h2
  rw [chk_yes h]
  have e : chkE ⟨labT c.node, labT c.id, spT c.service, c.status, c.note, 0, 0⟩ = 0 := by
    unfold chkE
    simp only [firstE, orE, idE, a1, b1, c1, h3, h4, if_true]
  refine ⟨e, ?_⟩
  rw [chk_yes e]
  simp only [a2, b2, c2]
theorem id_again {a b : ByteArray} (h : idE a b = 0) : idE (labT a) (labT b) = 0 ∧ labT (labT a) = labT a ∧ labT (labT b) = labT b := by
  obtain ⟨i1, i2⟩ := orE_zero h
  obtain ⟨a1, a2⟩ := lab_again i1
  obtain ⟨b1, b2⟩ := lab_again i2
  refine ⟨?_, a2, b2⟩
  unfold idE orE
  rw [if_pos a1]
  exact b1
theorem want_again (k : Int) (n : Nd) (s : Sp) (c : Ck) (b : Bool) (x : Int) : wantF ⟨k, n, s, c, b, if b then x else 0⟩ = if b then x else 0 := by
  unfold wantF
  cases b <;> rfl
/-- What is fixed is fixed. -/
theorem opp_again {o : Opp} (h : oppE o = 0) : oppE (oppF o) = 0 ∧ oppF (oppF o) = oppF o := by
  have hF : oppF o = oppN o := if_pos h
  suffices hh : oppE (oppN o) = 0 ∧ oppN (oppN o) = oppN o by
    rw [hF]
    refine ⟨hh.1, ?_⟩
    unfold oppF
    rw [if_pos hh.1]
    exact hh.2
  obtain ⟨k, n, s, c, b, x⟩ := o
  unfold oppE at h
  dsimp only at h
  by_cases h1 : k = 1
  · subst h1
    obtain ⟨a1, a2⟩ := node_again (n := n) (by simpa using h)
    cases b <;> simp [oppN, oppE, wantF, a1, a2]
  by_cases h2 : k = 2
  · subst h2
    obtain ⟨a1, a2⟩ := svc_again (s := s) (by simpa using h)
    cases b <;> simp [oppN, oppE, wantF, a1, a2]
  by_cases h3 : k = 3
  · subst h3
    obtain ⟨a1, a2⟩ := chk_again (c := c) (by simpa using h)
    cases b <;> simp [oppN, oppE, wantF, a1, a2]
  by_cases h4 : k = 4
  · subst h4
    obtain ⟨a1, a2⟩ := lab_again (s := n.name) (by simpa using h)
    cases b <;> simp [oppN, oppE, wantF, a1, a2]
  by_cases h5 : k = 5
  · subst h5
    obtain ⟨a1, a2, a3⟩ := id_again (a := s.node) (b := s.id) (by simpa using h)
    cases b <;> simp [oppN, oppE, wantF, a1, a2, a3]
  by_cases h6 : k = 6
  · subst h6
    obtain ⟨a1, a2, a3⟩ := id_again (a := c.node) (b := c.id) (by simpa using h)
    cases b <;> simp [oppN, oppE, wantF, a1, a2, a3]
  · simp [h1, h2, h3, h4, h5, h6] at h
/-- The operation with the law's five texts in small letters. -/
def oppL (o : Opp) : Opp := ⟨o.kind, ⟨lowS o.node.name, o.node.addr, o.node.made, o.node.changed⟩, ⟨lowS o.svc.node, lowS o.svc.id, o.svc.name, o.svc.port, o.svc.tags.map lowS, o.svc.made, o.svc.changed⟩, ⟨o.chk.node, lowS o.chk.id, o.chk.service, o.chk.status, o.chk.note, o.chk.made, o.chk.changed⟩, o.cas, o.want⟩
theorem oppE_low (o : Opp) : oppE (oppL o) = oppE o := by
  simp only [oppE, oppL, nodeE, svcE, chkE, idE, labE_low, tagsE_low]
theorem oppF_low (o : Opp) : oppF (oppL o) = oppF o := by
  unfold oppF
  rw [oppE_low]
  have : oppN (oppL o) = oppN o := by
    simp only [oppN, oppL, fixN, svcF, chkF, nodeE, svcE, chkE, idE, labE_low, labT_low, tagsE_low, tagsB_low, wantF]
    rfl
  rw [this]
/-- What is fixed bears no numbers; its tags rise. -/
theorem opp_zeros (o : Opp) : (oppF o).node.made = 0 ∧ (oppF o).node.changed = 0 ∧ (oppF o).svc.made = 0 ∧ (oppF o).svc.changed = 0 ∧ (oppF o).chk.made = 0 ∧ (oppF o).chk.changed = 0 := by
  unfold oppF
  split
  · unfold oppN
    have hn : (fixN o.node).made = 0 ∧ (fixN o.node).changed = 0 := by unfold fixN; split <;> exact ⟨rfl, rfl⟩
    have hs : (svcF o.svc).made = 0 ∧ (svcF o.svc).changed = 0 := by unfold svcF; split <;> exact ⟨rfl, rfl⟩
    have hc : (chkF o.chk).made = 0 ∧ (chkF o.chk).changed = 0 := by unfold chkF; split <;> exact ⟨rfl, rfl⟩
    split
    · exact ⟨hn.1, hn.2, rfl, rfl, rfl, rfl⟩
    split
    · exact ⟨rfl, rfl, hs.1, hs.2, rfl, rfl⟩
    split
    · exact ⟨rfl, rfl, rfl, rfl, hc.1, hc.2⟩
    repeat' split
    all_goals exact ⟨rfl, rfl, rfl, rfl, rfl, rfl⟩
  · exact ⟨rfl, rfl, rfl, rfl, rfl, rfl⟩
end Go.Proofs.YtgjcchafmcccjaaDoor
