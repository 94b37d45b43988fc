import Derived.Test.YtmkohdepgfahnaaGreatDoorRcOa1
import Derived.Test.YtmkohdepgfahnaaGreatDoorRcOa2
import Derived.Test.YtmkohdepgfahnaaGreatDoorRcOa3
import Derived.Test.YtmkohdepgfahnaaGreatDoorRcOa4
import Derived.Test.YtmkohdepgfahnaaGreatDoorRcOa5
import Derived.Test.YtmkohdepgfahnaaGreatDoorRcOa6
import Derived.Test.YtmkohdepgfahnaaGreatDoorRcOa7
import Derived.Test.YtmkohdepgfahnaaGreatDoorJNum
/- Layer 9 (records): FixOp, whole. -/
namespace Go.Proofs.YtmkohdepgfahnaaGreatDoor
open Go.RowKit

theorem fixOp_calls (o : Opp) (ta : Option Addr) (tc : Nat) (w : World) (hs : o.small) (hc : CellsAt w ta (o.svc.tags.map Value.string)) (hv : Vs w) :
    Calls Tryz.prog 52 #[.agg (o.v (.slice ta o.svc.tags.length tc))] w fun e w' => OppA w (oppF o) (oppE o) e w' := by
  rcases hb : o.cas
  · by_cases h1 : o.kind = 1
    · exact fixOpa1_false o h1 hb ta tc w hs hc hv
    by_cases h2 : o.kind = 2
    · exact fixOpa2_false o h2 hb ta tc w hs hc hv
    by_cases h3 : o.kind = 3
    · exact fixOpa3_false o h3 hb ta tc w hs hc hv
    by_cases h4 : o.kind = 4
    · exact fixOpa4_false o h4 hb ta tc w hs hc hv
    by_cases h5 : o.kind = 5
    · exact fixOpa5_false o h5 hb ta tc w hs hc hv
    by_cases h6 : o.kind = 6
    · exact fixOpa6_false o h6 hb ta tc w hs hc hv
    exact fixOpa7_false o ⟨h1, h2, h3, h4, h5, h6⟩ hb ta tc w hs hc hv
  · by_cases h1 : o.kind = 1
    · exact fixOpa1_true o h1 hb ta tc w hs hc hv
    by_cases h2 : o.kind = 2
    · exact fixOpa2_true o h2 hb ta tc w hs hc hv
    by_cases h3 : o.kind = 3
    · exact fixOpa3_true o h3 hb ta tc w hs hc hv
    by_cases h4 : o.kind = 4
    · exact fixOpa4_true o h4 hb ta tc w hs hc hv
    by_cases h5 : o.kind = 5
    · exact fixOpa5_true o h5 hb ta tc w hs hc hv
    by_cases h6 : o.kind = 6
    · exact fixOpa6_true o h6 hb ta tc w hs hc hv
    exact fixOpa7_true o ⟨h1, h2, h3, h4, h5, h6⟩ hb ta tc w hs hc hv
end Go.Proofs.YtmkohdepgfahnaaGreatDoor

/- Layer 9 (records): an operation that is fixed stays as it is; great letters and small ones are fixed alike. Plain. -/
namespace Go.Proofs.YtmkohdepgfahnaaGreatDoor
open Go.RowKit

theorem sp_again {s : ByteArray} (h : spE s = 0) : spE (spT s) = 0 ∧ spT (spT s) = spT s := by
  by_cases hz : s.size = 0
  · have e : spT s = ⟨#[]⟩ := by unfold spT; rw [if_pos hz]
    rw [e]
    exact ⟨rfl, rfl⟩
  · have e : spT s = labT s := by unfold spT; rw [if_neg hz]
    have e2 : spE s = labE s := by unfold spE; rw [if_neg hz]
    rw [e2] at h
    obtain ⟨k1, k2⟩ := lab_again h
    have hz2 : ¬ (labT s).size = 0 := by
      rw [(lab_yes (lab_zero h)).1, lowS_size]
      exact hz
    rw [e]
    refine ⟨?_, ?_⟩
    · unfold spE; rw [if_neg hz2]; exact k1
    · conv => lhs; unfold spT
      rw [if_neg hz2]
      exact k2
theorem chk_again {c : Ck} (h : chkE c = 0) : chkE (chkF c) = 0 ∧ chkF (chkF c) = chkF c := by
  obtain ⟨h1, h2, h3, h4⟩ := chk_parts h
  obtain ⟨i1, i2⟩ := orE_zero h1
  obtain ⟨a1, a2⟩ := lab_again i1
  obtain ⟨b1, b2⟩ := lab_again i2
  obtain ⟨c1, c2⟩ := sp_again h2
  rw [chk_yes h]
  have e : chkE ⟨labT c.node, labT c.id, spT c.service, c.status, c.note, 0, 0⟩ = 0 := by
    unfold chkE
    simp only [firstE, orE, idE, a1, b1, c1, h3, h4, if_true]
  refine ⟨e, ?_⟩
  rw [chk_yes e]
  simp only [a2, b2, c2]
theorem id_again {a b : ByteArray} (h : idE a b = 0) : idE (labT a) (labT b) = 0 ∧ labT (labT a) = labT a ∧ labT (labT b) = labT b := by
  obtain ⟨i1, i2⟩ := orE_zero h
  obtain ⟨a1, a2⟩ := lab_again i1
  obtain ⟨b1, b2⟩ := lab_again i2
  refine ⟨?_, a2, b2⟩
  unfold idE orE
  rw [if_pos a1]
  exact b1
theorem want_again (k : Int) (n : Nd) (s : Sp) (c : Ck) (b : Bool) (x : Int) : wantF ⟨k, n, s, c, b, if b then x else 0⟩ = if b then x else 0 := by
  unfold wantF
  cases b <;> rfl
/-- What is fixed is fixed. -/
theorem opp_again {o : Opp} (h : oppE o = 0) : oppE (oppF o) = 0 ∧ oppF (oppF o) = oppF o := by
  have hF : oppF o = oppN o := if_pos h
  suffices hh : oppE (oppN o) = 0 ∧ oppN (oppN o) = oppN o by
    rw [hF]
    refine ⟨hh.1, ?_⟩
    unfold oppF
    rw [if_pos hh.1]
    exact hh.2
  obtain ⟨k, n, s, c, b, x⟩ := o
  unfold oppE at h
  dsimp only at h
  by_cases h1 : k = 1
  · subst h1
    obtain ⟨a1, a2⟩ := node_again (n := n) (by simpa using h)
    cases b <;> simp [oppN, oppE, wantF, a1, a2]
  by_cases h2 : k = 2
  · subst h2
    obtain ⟨a1, a2⟩ := svc_again (s := s) (by simpa using h)
    cases b <;> simp [oppN, oppE, wantF, a1, a2]
  by_cases h3 : k = 3
  · subst h3
    obtain ⟨a1, a2⟩ := chk_again (c := c) (by simpa using h)
    cases b <;> simp [oppN, oppE, wantF, a1, a2]
  by_cases h4 : k = 4
  · subst h4
    obtain ⟨a1, a2⟩ := lab_again (s := n.name) (by simpa using h)
    cases b <;> simp [oppN, oppE, wantF, a1, a2]
  by_cases h5 : k = 5
  · subst h5
    obtain ⟨a1, a2, a3⟩ := id_again (a := s.node) (b := s.id) (by simpa using h)
    cases b <;> simp [oppN, oppE, wantF, a1, a2, a3]
  by_cases h6 : k = 6
  · subst h6
    obtain ⟨a1, a2, a3⟩ := id_again (a := c.node) (b := c.id) (by simpa using h)
    cases b <;> simp [oppN, oppE, wantF, a1, a2, a3]
  · simp [h1, h2, h3, h4, h5, h6] at h
/-- The operation with the law's five texts in small letters. -/
def oppL (o : Opp) : Opp := ⟨o.kind, ⟨lowS o.node.name, o.node.addr, o.node.made, o.node.changed⟩, ⟨lowS o.svc.node, lowS o.svc.id, o.svc.name, o.svc.port, o.svc.tags.map lowS, o.svc.made, o.svc.changed⟩, ⟨o.chk.node, lowS o.chk.id, o.chk.service, o.chk.status, o.chk.note, o.chk.made, o.chk.changed⟩, o.cas, o.want⟩
theorem oppE_low (o : Opp) : oppE (oppL o) = oppE o := by
  simp only [oppE, oppL, nodeE, svcE, chkE, idE, labE_low, tagsE_low]
theorem oppF_low (o : Opp) : oppF (oppL o) = oppF o := by
  unfold oppF
  rw [oppE_low]
  have : oppN (oppL o) = oppN o := by
    simp only [oppN, oppL, fixN, svcF, chkF, nodeE, svcE, chkE, idE, labE_low, labT_low, tagsE_low, tagsB_low, wantF]
    rfl
  rw [this]
/-- What is fixed bears no numbers; its tags rise. -/
theorem opp_zeros (o : Opp) : (oppF o).node.made = 0 ∧ (oppF o).node.changed = 0 ∧ (oppF o).svc.made = 0 ∧ (oppF o).svc.changed = 0 ∧ (oppF o).chk.made = 0 ∧ (oppF o).chk.changed = 0 := by
  unfold oppF
  split
  · unfold oppN
    have hn : (fixN o.node).made = 0 ∧ (fixN o.node).changed = 0 := by unfold fixN; split <;> exact ⟨rfl, rfl⟩
    have hs : (svcF o.svc).made = 0 ∧ (svcF o.svc).changed = 0 := by unfold svcF; split <;> exact ⟨rfl, rfl⟩
    have hc : (chkF o.chk).made = 0 ∧ (chkF o.chk).changed = 0 := by unfold chkF; split <;> exact ⟨rfl, rfl⟩
    split
    · exact ⟨hn.1, hn.2, rfl, rfl, rfl, rfl⟩
    split
    · exact ⟨rfl, rfl, hs.1, hs.2, rfl, rfl⟩
    split
    · exact ⟨rfl, rfl, rfl, rfl, hc.1, hc.2⟩
    repeat' split
    all_goals exact ⟨rfl, rfl, rfl, rfl, rfl, rfl⟩
  · exact ⟨rfl, rfl, rfl, rfl, rfl, rfl⟩
end Go.Proofs.YtmkohdepgfahnaaGreatDoor
