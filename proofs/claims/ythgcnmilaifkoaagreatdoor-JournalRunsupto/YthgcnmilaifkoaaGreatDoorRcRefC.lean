/- Layer 9 (records): the document's FixCheck. -/
import Derived.Test.YthgcnmilaifkoaaGreatDoorRcRefS
import Derived.Test.YthgcnmilaifkoaaGreatDoorRwPut
namespace Go.Proofs.YthgcnmilaifkoaaGreatDoor
open Go.RowKit
set_option linter.unusedVariables false

def xW : ByteArray := ⟨#[120]⟩
theorem xW_lab : labE xW = 0 := by kernel_rfl
theorem chkE_three (c : Ck) : chkE c = orE (orE (idE c.node c.id) (spE c.service)) (orE (statE c.status) (noteE c.note)) := by
 rw [orE_assoc]
 unfold chkE
 simp only [firstE]
 congr 3
 unfold orE
 by_cases h : noteE c.note = 0 <;> simp [h]

set_option maxRecDepth 100000 in
set_option maxHeartbeats 4000000 in
theorem refFixCheck0_calls (c : Ck) (he : c.service.toList = []) (w : World) (hs : c.small) :
  Calls Tryz.prog 28 #[.agg c.v] w fun e w' => e = .returned (.tuple #[.agg (chkF c).v, .int .i64 (chkE c)]) ∧ Below w.heap.size w w' := by
 have HTE : Hid (threeE c.node c.id xW = orE (idE c.node c.id) (spE c.service)) := by
  rw [Hid, ← three_id]
  have h0 : c.service.size = 0 := by rw [ByteArray.toList_eq] at he; simpa using congrArg List.length he
  unfold spE
  rw [if_pos h0, xW_lab]
 have HSP : Hid (spT c.service = ⟨#[]⟩) := by
  have h0 : c.service.size = 0 := by rw [ByteArray.toList_eq] at he; simpa using congrArg List.length he
  unfold spT
  rw [Hid, if_pos h0]
 obtain ⟨te, Hte⟩ : ∃ te, Hid (te = threeE c.node c.id xW) := ⟨_, rfl⟩
 have HE : Hid (chkE c = orE te (orE (statE c.status) (noteE c.note))) := by rw [Hid, Hte.out, HTE.out]; exact chkE_three c
 have HY : Hid (orE te (orE (statE c.status) (noteE c.note)) = 0 → (chkF c).v = #[.string (labT c.node), .string (labT c.id), .string (⟨#[]⟩), .int .i64 c.status, .string c.note, .int .u64 0, .int .u64 0]) := fun h => by rw [chk_yes (by rw [HE.out]; exact h), HSP.out]; rfl
 have HN : Hid (¬ orE te (orE (statE c.status) (noteE c.note)) = 0 → (chkF c).v = #[.string ⟨#[]⟩, .string ⟨#[]⟩, .string ⟨#[]⟩, .int .i64 0, .string ⟨#[]⟩, .int .u64 0, .int .u64 0]) := fun h => by rw [chk_no (by rw [HE.out]; exact h)]; rfl
 have HT3 : Hid (te = 0 → ∀ x, threeT c.node c.id xW x = labT x) := fun h x => by
  rw [Hte.out] at h
  unfold threeE at h
  unfold threeT
  split at h
  ·next h1 => rw [if_pos h1]
  ·cases h
 rw [HE.out]
 obtain ⟨hs1, hs2, hs3, hs4⟩ := hs
 clear HE HTE HSP
 obtain ⟨nd, id, sv, st, nt, mk, ch⟩ := c
 simp only [Ck.v] at *
 have H3 : Hid (∀ w, Calls Tryz.prog 30 #[.string nd, .string id, .string xW] w fun e w' => e = .returned (.tuple #[.string (threeT nd id xW nd), .string (threeT nd id xW id), .string (threeT nd id xW xW), .int .i64 te]) ∧ Below w.heap.size w w') := fun w => by rw [Hte.out]; exact three_calls nd id xW w hs1 hs2 (by decide)
 clear Hte
 have hemp : sv.toList.isEmpty = true := by rw [he]; rfl
 obtain ⟨w2, Hw2⟩ : ∃ w2, Hid (w2 = (w.alloc (.cells #[.string nd, .string id, .string sv, .int .i64 st, .string nt, .int .u64 mk, .int .u64 ch] 45)).alloc (.cells #[.string ⟨#[]⟩, .string ⟨#[]⟩, .string ⟨#[]⟩, .int .i64 0, .string ⟨#[]⟩, .int .u64 0, .int .u64 0] 45)) := ⟨_, rfl⟩
 have hz : (w.alloc (.cells #[.string nd, .string id, .string sv, .int .i64 st, .string nt, .int .u64 mk, .int .u64 ch] 45)).heap.size = w.heap.size + 1 := size_new _ _
 have HX2 : Hid (Blk w2 w.heap.size #[.string nd, .string id, .string sv, .int .i64 st, .string nt, .int .u64 mk, .int .u64 ch] 45) := by rw [Hw2.out]; exact (Blk.new _ _ _).alloc _
 have HR2 : Hid (Blk w2 (w.heap.size + 1) #[.string ⟨#[]⟩, .string ⟨#[]⟩, .string ⟨#[]⟩, .int .i64 0, .string ⟨#[]⟩, .int .u64 0, .int .u64 0] 45) := by rw [Hw2.out, ← hz]; exact Blk.new _ _ _
 have HB2 : Hid (Below w.heap.size w w2) := by rw [Hw2.out]; exact (below_new w _).alloc (by rw [hz]; omega) _
 clear hz
 go_enter Tryz.func28, Tryz.ntmps28
 go_wp2_with fail
 rw [← Hw2.out]
 clear Hw2
 refine (H3.out w2).mono ?_
 rintro e w3 ⟨rfl, hb3⟩
 have HX3 : Hid (Blk w3 w.heap.size #[.string nd, .string id, .string sv, .int .i64 st, .string nt, .int .u64 mk, .int .u64 ch] 45) := HX2.out.below hb3
 have HR3 : Hid (Blk w3 (w.heap.size + 1) #[.string ⟨#[]⟩, .string ⟨#[]⟩, .string ⟨#[]⟩, .int .i64 0, .string ⟨#[]⟩, .int .u64 0, .int .u64 0] 45) := HR2.out.below hb3
 have HB3 : Hid (Below w.heap.size w w3) := HB2.out.trans (hb3.mono HB2.out.size)
 clear hb3 HX2 HR2 HB2 H3
 have r0 := HR3.out.cell 0 rfl
 have r1 := HR3.out.cell 1 rfl
 have r2 := HR3.out.cell 2 rfl
 have r3 := HR3.out.cell 3 rfl
 have r4 := HR3.out.cell 4 rfl
 have r5 := HR3.out.cell 5 rfl
 have r6 := HR3.out.cell 6 rfl
 have z := HR3.out.open
 have b2 := HX3.out.cell 2 rfl
 have b3 := HX3.out.cell 3 rfl
 have b4 := HX3.out.cell 4 rfl
 by_cases h0 : te = 0
 case neg =>
  have hor : orE te (orE (statE st) (noteE nt)) = te := by unfold orE; rw [if_neg h0]
  rw [hor] at HN
  have HQ : Hid (_ = _) := HN.out h0
  have Hor : Hid (orE te (orE (statE st) (noteE nt)) = te) := hor
  have q : (te != 0) = true := by simpa using h0
  clear HY HN hor
  go_wp2
  exact ret_box (g := w.heap.size + 1) (e := .int .i64 te) rfl rfl rfl rfl (load_chk (putC_all (l := [.string ⟨#[]⟩, .string ⟨#[]⟩, .string ⟨#[]⟩, .int .i64 0, .string ⟨#[]⟩, .int .u64 0, .int .u64 0]) HR3.out rfl) rfl) ⟨ret_agg HQ.out.symm Hor.out.symm, putC_below [.string ⟨#[]⟩, .string ⟨#[]⟩, .string ⟨#[]⟩, .int .i64 0, .string ⟨#[]⟩, .int .u64 0, .int .u64 0] w3 0 HB3.out (by omega)⟩
 have HTT : Hid (∀ x, threeT nd id xW x = labT x) := HT3.out h0
 rw [HTT.out, HTT.out, HTT.out]
 have hor : orE te (orE (statE st) (noteE nt)) = orE (statE st) (noteE nt) := by unfold orE; rw [if_pos h0]
 rw [hor] at HY HN
 have Hor1 : Hid (orE te (orE (statE st) (noteE nt)) = orE (statE st) (noteE nt)) := hor
 have q : (te != 0) = false := by simpa using h0
 clear h0 hor HT3 HTT
 by_cases hp : st = 1 ∨ st = 2 ∨ st = 3
 case neg =>
  have hpe : statE st = 94 := if_neg hp
  have hor : orE (statE st) (noteE nt) = 94 := by unfold orE; rw [if_neg (by rw [hpe]; decide), hpe]
  rw [hor] at HN
  have HQ : Hid (_ = _) := HN.out (by decide)
  have Hor : Hid (orE te (orE (statE st) (noteE nt)) = 94) := Hor1.out.trans hor
  have p1 : (st != 1) = true := by simp; omega
  have p2 : (st != 2) = true := by simp; omega
  have p3 : (st != 3) = true := by simp; omega
  have p4 : ¬ st = 1 := by omega
  have p5 : ¬ st = 2 := by omega
  have p6 : ¬ st = 3 := by omega
  clear HY HN hor hpe hp
  go_wp2
  exact ret_box (g := w.heap.size + 1) (e := .int .i64 94) rfl rfl rfl rfl (load_chk (putC_all (l := [.string ⟨#[]⟩, .string ⟨#[]⟩, .string ⟨#[]⟩, .int .i64 0, .string ⟨#[]⟩, .int .u64 0, .int .u64 0]) HR3.out rfl) rfl) ⟨ret_agg HQ.out.symm Hor.out.symm, putC_below [.string ⟨#[]⟩, .string ⟨#[]⟩, .string ⟨#[]⟩, .int .i64 0, .string ⟨#[]⟩, .int .u64 0, .int .u64 0] w3 0 HB3.out (by omega)⟩
 have hpe : statE st = 0 := if_pos hp
 have hor : orE (statE st) (noteE nt) = noteE nt := by unfold orE; rw [if_pos hpe]
 rw [hor] at HY HN
 have Hor2 : Hid (orE te (orE (statE st) (noteE nt)) = noteE nt) := Hor1.out.trans hor
 clear hpe hor Hor1
 by_cases hl : nt.size ≤ 200
 case neg =>
  have hne := note_long hl
  rw [hne] at HN
  have HQ : Hid (_ = _) := HN.out (by decide)
  have Hor : Hid (orE te (orE (statE st) (noteE nt)) = 95) := Hor2.out.trans hne
  have hl' : (200 : Int) < (nt.size : Int) := by omega
  clear HY HN hne
  rcases hp with hp | hp | hp
  all_goals
   subst hp
   go_wp2
   exact ret_box (g := w.heap.size + 1) (e := .int .i64 95) rfl rfl rfl rfl (load_chk (putC_all (l := [.string ⟨#[]⟩, .string ⟨#[]⟩, .string ⟨#[]⟩, .int .i64 0, .string ⟨#[]⟩, .int .u64 0, .int .u64 0]) HR3.out rfl) rfl) ⟨ret_agg HQ.out.symm Hor.out.symm, putC_below [.string ⟨#[]⟩, .string ⟨#[]⟩, .string ⟨#[]⟩, .int .i64 0, .string ⟨#[]⟩, .int .u64 0, .int .u64 0] w3 0 HB3.out (by omega)⟩
 have hl' : ¬ (200 : Int) < (nt.size : Int) := by omega
 have HG : Hid (noteTo nt nt.size → noteE nt = 0) := fun h => if_pos ⟨hl, h⟩
 have HBd : Hid (∀ k (hk : k < nt.size), ¬ (32 ≤ nt[k].toNat ∧ nt[k].toNat ≤ 126) → noteE nt = 95) := fun k hk h => note_bad hk h
 clear hl
 rcases hp with hp | hp | hp
 ·subst hp
  go_wp2
  go_loop [9] (fun x => ∃ k : Nat, k ≤ nt.size ∧ x = .int .i64 k ∧ Hid (noteTo nt k)) (fun x => nt.size - (intOf x).toNat)
  case atStart => exact ⟨0, Nat.zero_le _, rfl, fun i h h' => by omega⟩
  case round =>
   obtain ⟨k, hk, rfl, HK⟩ := hrel
   by_cases hlt : k < nt.size
   ·by_cases h32 : 32 ≤ nt[k].toNat
    ·have p1 : ¬ (nt[k].toNat : Int) < 32 := by omega
     by_cases h126 : nt[k].toNat ≤ 126
     ·have p2 : ¬ (126 : Int) < (nt[k].toNat : Int) := by omega
      have HNx : Hid (noteTo nt (k + 1)) := HK.out.next hlt ⟨h32, h126⟩
      go_wp2
      go_round
      case rel => exact ⟨k + 1, by omega, by go_num, HNx⟩
      case measure => simp [intOf]; omega
     ·have p2 : (126 : Int) < (nt[k].toNat : Int) := by omega
      have hne := HBd.out k hlt (by omega)
      rw [hne] at HN
      have HQ : Hid (_ = _) := HN.out (by decide)
      have Hor : Hid (orE te (orE (statE 1) (noteE nt)) = 95) := Hor2.out.trans hne
      clear HY HN hne HBd
      go_wp2
      exact ret_box (g := w.heap.size + 1) (e := .int .i64 95) rfl rfl rfl rfl (load_chk (putC_all (l := [.string ⟨#[]⟩, .string ⟨#[]⟩, .string ⟨#[]⟩, .int .i64 0, .string ⟨#[]⟩, .int .u64 0, .int .u64 0]) HR3.out rfl) rfl) ⟨ret_agg HQ.out.symm Hor.out.symm, putC_below [.string ⟨#[]⟩, .string ⟨#[]⟩, .string ⟨#[]⟩, .int .i64 0, .string ⟨#[]⟩, .int .u64 0, .int .u64 0] w3 0 HB3.out (by omega)⟩
    ·have p1 : (nt[k].toNat : Int) < 32 := by omega
     have hne := HBd.out k hlt (by omega)
     rw [hne] at HN
     have HQ : Hid (_ = _) := HN.out (by decide)
     have Hor : Hid (orE te (orE (statE 1) (noteE nt)) = 95) := Hor2.out.trans hne
     clear HY HN hne HBd
     go_wp2
     exact ret_box (g := w.heap.size + 1) (e := .int .i64 95) rfl rfl rfl rfl (load_chk (putC_all (l := [.string ⟨#[]⟩, .string ⟨#[]⟩, .string ⟨#[]⟩, .int .i64 0, .string ⟨#[]⟩, .int .u64 0, .int .u64 0]) HR3.out rfl) rfl) ⟨ret_agg HQ.out.symm Hor.out.symm, putC_below [.string ⟨#[]⟩, .string ⟨#[]⟩, .string ⟨#[]⟩, .int .i64 0, .string ⟨#[]⟩, .int .u64 0, .int .u64 0] w3 0 HB3.out (by omega)⟩
   ·obtain rfl : k = nt.size := by omega
    have hne := HG.out HK.out
    rw [hne] at HY
    have HQ : Hid (_ = _) := HY.out rfl
    have Hor : Hid (orE te (orE (statE 1) (noteE nt)) = 0) := Hor2.out.trans hne
    clear HY HN hne HBd HG
    go_wp2
    exact ret_box (g := w.heap.size + 1) (e := .int .i64 0) rfl rfl rfl rfl (load_chk (putC_all (l := [.string (labT nd), .string (labT id), .string (⟨#[]⟩), .int .i64 1, .string nt, .int .u64 0, .int .u64 0]) HR3.out rfl) rfl) ⟨ret_agg HQ.out.symm Hor.out.symm, putC_below [.string (labT nd), .string (labT id), .string (⟨#[]⟩), .int .i64 1, .string nt, .int .u64 0, .int .u64 0] w3 0 HB3.out (by omega)⟩
 ·subst hp
  go_wp2
  go_loop [9] (fun x => ∃ k : Nat, k ≤ nt.size ∧ x = .int .i64 k ∧ Hid (noteTo nt k)) (fun x => nt.size - (intOf x).toNat)
  case atStart => exact ⟨0, Nat.zero_le _, rfl, fun i h h' => by omega⟩
  case round =>
   obtain ⟨k, hk, rfl, HK⟩ := hrel
   by_cases hlt : k < nt.size
   ·by_cases h32 : 32 ≤ nt[k].toNat
    ·have p1 : ¬ (nt[k].toNat : Int) < 32 := by omega
     by_cases h126 : nt[k].toNat ≤ 126
     ·have p2 : ¬ (126 : Int) < (nt[k].toNat : Int) := by omega
      have HNx : Hid (noteTo nt (k + 1)) := HK.out.next hlt ⟨h32, h126⟩
      go_wp2
      go_round
      case rel => exact ⟨k + 1, by omega, by go_num, HNx⟩
      case measure => simp [intOf]; omega
     ·have p2 : (126 : Int) < (nt[k].toNat : Int) := by omega
      have hne := HBd.out k hlt (by omega)
      rw [hne] at HN
      have HQ : Hid (_ = _) := HN.out (by decide)
      have Hor : Hid (orE te (orE (statE 2) (noteE nt)) = 95) := Hor2.out.trans hne
      clear HY HN hne HBd
      go_wp2
      exact ret_box (g := w.heap.size + 1) (e := .int .i64 95) rfl rfl rfl rfl (load_chk (putC_all (l := [.string ⟨#[]⟩, .string ⟨#[]⟩, .string ⟨#[]⟩, .int .i64 0, .string ⟨#[]⟩, .int .u64 0, .int .u64 0]) HR3.out rfl) rfl) ⟨ret_agg HQ.out.symm Hor.out.symm, putC_below [.string ⟨#[]⟩, .string ⟨#[]⟩, .string ⟨#[]⟩, .int .i64 0, .string ⟨#[]⟩, .int .u64 0, .int .u64 0] w3 0 HB3.out (by omega)⟩
    ·have p1 : (nt[k].toNat : Int) < 32 := by omega
     have hne := HBd.out k hlt (by omega)
     rw [hne] at HN
     have HQ : Hid (_ = _) := HN.out (by decide)
     have Hor : Hid (orE te (orE (statE 2) (noteE nt)) = 95) := Hor2.out.trans hne
     clear HY HN hne HBd
     go_wp2
     exact ret_box (g := w.heap.size + 1) (e := .int .i64 95) rfl rfl rfl rfl (load_chk (putC_all (l := [.string ⟨#[]⟩, .string ⟨#[]⟩, .string ⟨#[]⟩, .int .i64 0, .string ⟨#[]⟩, .int .u64 0, .int .u64 0]) HR3.out rfl) rfl) ⟨ret_agg HQ.out.symm Hor.out.symm, putC_below [.string ⟨#[]⟩, .string ⟨#[]⟩, .string ⟨#[]⟩, .int .i64 0, .string ⟨#[]⟩, .int .u64 0, .int .u64 0] w3 0 HB3.out (by omega)⟩
   ·obtain rfl : k = nt.size := by omega
    have hne := HG.out HK.out
    rw [hne] at HY
    have HQ : Hid (_ = _) := HY.out rfl
    have Hor : Hid (orE te (orE (statE 2) (noteE nt)) = 0) := Hor2.out.trans hne
    clear HY HN hne HBd HG
    go_wp2
    exact ret_box (g := w.heap.size + 1) (e := .int .i64 0) rfl rfl rfl rfl (load_chk (putC_all (l := [.string (labT nd), .string (labT id), .string (⟨#[]⟩), .int .i64 2, .string nt, .int .u64 0, .int .u64 0]) HR3.out rfl) rfl) ⟨ret_agg HQ.out.symm Hor.out.symm, putC_below [.string (labT nd), .string (labT id), .string (⟨#[]⟩), .int .i64 2, .string nt, .int .u64 0, .int .u64 0] w3 0 HB3.out (by omega)⟩
 ·subst hp
  go_wp2
  go_loop [9] (fun x => ∃ k : Nat, k ≤ nt.size ∧ x = .int .i64 k ∧ Hid (noteTo nt k)) (fun x => nt.size - (intOf x).toNat)
  case atStart => exact ⟨0, Nat.zero_le _, rfl, fun i h h' => by omega⟩
  case round =>
   obtain ⟨k, hk, rfl, HK⟩ := hrel
   by_cases hlt : k < nt.size
   ·by_cases h32 : 32 ≤ nt[k].toNat
    ·have p1 : ¬ (nt[k].toNat : Int) < 32 := by omega
     by_cases h126 : nt[k].toNat ≤ 126
     ·have p2 : ¬ (126 : Int) < (nt[k].toNat : Int) := by omega
      have HNx : Hid (noteTo nt (k + 1)) := HK.out.next hlt ⟨h32, h126⟩
      go_wp2
      go_round
      case rel => exact ⟨k + 1, by omega, by go_num, HNx⟩
      case measure => simp [intOf]; omega
     ·have p2 : (126 : Int) < (nt[k].toNat : Int) := by omega
      have hne := HBd.out k hlt (by omega)
      rw [hne] at HN
      have HQ : Hid (_ = _) := HN.out (by decide)
      have Hor : Hid (orE te (orE (statE 3) (noteE nt)) = 95) := Hor2.out.trans hne
      clear HY HN hne HBd
      go_wp2
      exact ret_box (g := w.heap.size + 1) (e := .int .i64 95) rfl rfl rfl rfl (load_chk (putC_all (l := [.string ⟨#[]⟩, .string ⟨#[]⟩, .string ⟨#[]⟩, .int .i64 0, .string ⟨#[]⟩, .int .u64 0, .int .u64 0]) HR3.out rfl) rfl) ⟨ret_agg HQ.out.symm Hor.out.symm, putC_below [.string ⟨#[]⟩, .string ⟨#[]⟩, .string ⟨#[]⟩, .int .i64 0, .string ⟨#[]⟩, .int .u64 0, .int .u64 0] w3 0 HB3.out (by omega)⟩
    ·have p1 : (nt[k].toNat : Int) < 32 := by omega
     have hne := HBd.out k hlt (by omega)
     rw [hne] at HN
     have HQ : Hid (_ = _) := HN.out (by decide)
     have Hor : Hid (orE te (orE (statE 3) (noteE nt)) = 95) := Hor2.out.trans hne
     clear HY HN hne HBd
     go_wp2
     exact ret_box (g := w.heap.size + 1) (e := .int .i64 95) rfl rfl rfl rfl (load_chk (putC_all (l := [.string ⟨#[]⟩, .string ⟨#[]⟩, .string ⟨#[]⟩, .int .i64 0, .string ⟨#[]⟩, .int .u64 0, .int .u64 0]) HR3.out rfl) rfl) ⟨ret_agg HQ.out.symm Hor.out.symm, putC_below [.string ⟨#[]⟩, .string ⟨#[]⟩, .string ⟨#[]⟩, .int .i64 0, .string ⟨#[]⟩, .int .u64 0, .int .u64 0] w3 0 HB3.out (by omega)⟩
   ·obtain rfl : k = nt.size := by omega
    have hne := HG.out HK.out
    rw [hne] at HY
    have HQ : Hid (_ = _) := HY.out rfl
    have Hor : Hid (orE te (orE (statE 3) (noteE nt)) = 0) := Hor2.out.trans hne
    clear HY HN hne HBd HG
    go_wp2
    exact ret_box (g := w.heap.size + 1) (e := .int .i64 0) rfl rfl rfl rfl (load_chk (putC_all (l := [.string (labT nd), .string (labT id), .string (⟨#[]⟩), .int .i64 3, .string nt, .int .u64 0, .int .u64 0]) HR3.out rfl) rfl) ⟨ret_agg HQ.out.symm Hor.out.symm, putC_below [.string (labT nd), .string (labT id), .string (⟨#[]⟩), .int .i64 3, .string nt, .int .u64 0, .int .u64 0] w3 0 HB3.out (by omega)⟩

set_option maxRecDepth 100000 in
set_option maxHeartbeats 4000000 in
theorem refFixCheck1_calls (c : Ck) (he : ¬ c.service.toList = []) (w : World) (hs : c.small) :
  Calls Tryz.prog 28 #[.agg c.v] w fun e w' => e = .returned (.tuple #[.agg (chkF c).v, .int .i64 (chkE c)]) ∧ Below w.heap.size w w' := by
 have HTE : Hid (threeE c.node c.id c.service = orE (idE c.node c.id) (spE c.service)) := by
  rw [Hid, ← three_id]
  have h0 := lab_size_pos he
  unfold spE
  rw [if_neg (by omega)]
 have HSP : Hid (spT c.service = labT c.service) := by
  have h0 := lab_size_pos he
  unfold spT
  rw [Hid, if_neg (by omega)]
 obtain ⟨te, Hte⟩ : ∃ te, Hid (te = threeE c.node c.id c.service) := ⟨_, rfl⟩
 have HE : Hid (chkE c = orE te (orE (statE c.status) (noteE c.note))) := by rw [Hid, Hte.out, HTE.out]; exact chkE_three c
 have HY : Hid (orE te (orE (statE c.status) (noteE c.note)) = 0 → (chkF c).v = #[.string (labT c.node), .string (labT c.id), .string (labT c.service), .int .i64 c.status, .string c.note, .int .u64 0, .int .u64 0]) := fun h => by rw [chk_yes (by rw [HE.out]; exact h), HSP.out]; rfl
 have HN : Hid (¬ orE te (orE (statE c.status) (noteE c.note)) = 0 → (chkF c).v = #[.string ⟨#[]⟩, .string ⟨#[]⟩, .string ⟨#[]⟩, .int .i64 0, .string ⟨#[]⟩, .int .u64 0, .int .u64 0]) := fun h => by rw [chk_no (by rw [HE.out]; exact h)]; rfl
 have HT3 : Hid (te = 0 → ∀ x, threeT c.node c.id c.service x = labT x) := fun h x => by
  rw [Hte.out] at h
  unfold threeE at h
  unfold threeT
  split at h
  ·next h1 => rw [if_pos h1]
  ·cases h
 rw [HE.out]
 obtain ⟨hs1, hs2, hs3, hs4⟩ := hs
 clear HE HTE HSP
 obtain ⟨nd, id, sv, st, nt, mk, ch⟩ := c
 simp only [Ck.v] at *
 have H3 : Hid (∀ w, Calls Tryz.prog 30 #[.string nd, .string id, .string sv] w fun e w' => e = .returned (.tuple #[.string (threeT nd id sv nd), .string (threeT nd id sv id), .string (threeT nd id sv sv), .int .i64 te]) ∧ Below w.heap.size w w') := fun w => by rw [Hte.out]; exact three_calls nd id sv w hs1 hs2 hs3
 clear Hte
 have hemp : sv.toList.isEmpty = false := by simpa using he
 obtain ⟨w2, Hw2⟩ : ∃ w2, Hid (w2 = (w.alloc (.cells #[.string nd, .string id, .string sv, .int .i64 st, .string nt, .int .u64 mk, .int .u64 ch] 45)).alloc (.cells #[.string ⟨#[]⟩, .string ⟨#[]⟩, .string ⟨#[]⟩, .int .i64 0, .string ⟨#[]⟩, .int .u64 0, .int .u64 0] 45)) := ⟨_, rfl⟩
 have hz : (w.alloc (.cells #[.string nd, .string id, .string sv, .int .i64 st, .string nt, .int .u64 mk, .int .u64 ch] 45)).heap.size = w.heap.size + 1 := size_new _ _
 have HX2 : Hid (Blk w2 w.heap.size #[.string nd, .string id, .string sv, .int .i64 st, .string nt, .int .u64 mk, .int .u64 ch] 45) := by rw [Hw2.out]; exact (Blk.new _ _ _).alloc _
 have HR2 : Hid (Blk w2 (w.heap.size + 1) #[.string ⟨#[]⟩, .string ⟨#[]⟩, .string ⟨#[]⟩, .int .i64 0, .string ⟨#[]⟩, .int .u64 0, .int .u64 0] 45) := by rw [Hw2.out, ← hz]; exact Blk.new _ _ _
 have HB2 : Hid (Below w.heap.size w w2) := by rw [Hw2.out]; exact (below_new w _).alloc (by rw [hz]; omega) _
 clear hz
 go_enter Tryz.func28, Tryz.ntmps28
 go_wp2_with fail
 rw [← Hw2.out]
 clear Hw2
 refine (H3.out w2).mono ?_
 rintro e w3 ⟨rfl, hb3⟩
 have HX3 : Hid (Blk w3 w.heap.size #[.string nd, .string id, .string sv, .int .i64 st, .string nt, .int .u64 mk, .int .u64 ch] 45) := HX2.out.below hb3
 have HR3 : Hid (Blk w3 (w.heap.size + 1) #[.string ⟨#[]⟩, .string ⟨#[]⟩, .string ⟨#[]⟩, .int .i64 0, .string ⟨#[]⟩, .int .u64 0, .int .u64 0] 45) := HR2.out.below hb3
 have HB3 : Hid (Below w.heap.size w w3) := HB2.out.trans (hb3.mono HB2.out.size)
 clear hb3 HX2 HR2 HB2 H3
 have r0 := HR3.out.cell 0 rfl
 have r1 := HR3.out.cell 1 rfl
 have r2 := HR3.out.cell 2 rfl
 have r3 := HR3.out.cell 3 rfl
 have r4 := HR3.out.cell 4 rfl
 have r5 := HR3.out.cell 5 rfl
 have r6 := HR3.out.cell 6 rfl
 have z := HR3.out.open
 have b2 := HX3.out.cell 2 rfl
 have b3 := HX3.out.cell 3 rfl
 have b4 := HX3.out.cell 4 rfl
 by_cases h0 : te = 0
 case neg =>
  have hor : orE te (orE (statE st) (noteE nt)) = te := by unfold orE; rw [if_neg h0]
  rw [hor] at HN
  have HQ : Hid (_ = _) := HN.out h0
  have Hor : Hid (orE te (orE (statE st) (noteE nt)) = te) := hor
  have q : (te != 0) = true := by simpa using h0
  clear HY HN hor
  go_wp2
  exact ret_box (g := w.heap.size + 1) (e := .int .i64 te) rfl rfl rfl rfl (load_chk (putC_all (l := [.string ⟨#[]⟩, .string ⟨#[]⟩, .string ⟨#[]⟩, .int .i64 0, .string ⟨#[]⟩, .int .u64 0, .int .u64 0]) HR3.out rfl) rfl) ⟨ret_agg HQ.out.symm Hor.out.symm, putC_below [.string ⟨#[]⟩, .string ⟨#[]⟩, .string ⟨#[]⟩, .int .i64 0, .string ⟨#[]⟩, .int .u64 0, .int .u64 0] w3 0 HB3.out (by omega)⟩
 have HTT : Hid (∀ x, threeT nd id sv x = labT x) := HT3.out h0
 rw [HTT.out, HTT.out, HTT.out]
 have hor : orE te (orE (statE st) (noteE nt)) = orE (statE st) (noteE nt) := by unfold orE; rw [if_pos h0]
 rw [hor] at HY HN
 have Hor1 : Hid (orE te (orE (statE st) (noteE nt)) = orE (statE st) (noteE nt)) := hor
 have q : (te != 0) = false := by simpa using h0
 clear h0 hor HT3 HTT
 by_cases hp : st = 1 ∨ st = 2 ∨ st = 3
 case neg =>
  have hpe : statE st = 94 := if_neg hp
  have hor : orE (statE st) (noteE nt) = 94 := by unfold orE; rw [if_neg (by rw [hpe]; decide), hpe]
  rw [hor] at HN
  have HQ : Hid (_ = _) := HN.out (by decide)
  have Hor : Hid (orE te (orE (statE st) (noteE nt)) = 94) := Hor1.out.trans hor
  have p1 : (st != 1) = true := by simp; omega
  have p2 : (st != 2) = true := by simp; omega
  have p3 : (st != 3) = true := by simp; omega
  have p4 : ¬ st = 1 := by omega
  have p5 : ¬ st = 2 := by omega
  have p6 : ¬ st = 3 := by omega
  clear HY HN hor hpe hp
  go_wp2
  exact ret_box (g := w.heap.size + 1) (e := .int .i64 94) rfl rfl rfl rfl (load_chk (putC_all (l := [.string ⟨#[]⟩, .string ⟨#[]⟩, .string ⟨#[]⟩, .int .i64 0, .string ⟨#[]⟩, .int .u64 0, .int .u64 0]) HR3.out rfl) rfl) ⟨ret_agg HQ.out.symm Hor.out.symm, putC_below [.string ⟨#[]⟩, .string ⟨#[]⟩, .string ⟨#[]⟩, .int .i64 0, .string ⟨#[]⟩, .int .u64 0, .int .u64 0] w3 0 HB3.out (by omega)⟩
 have hpe : statE st = 0 := if_pos hp
 have hor : orE (statE st) (noteE nt) = noteE nt := by unfold orE; rw [if_pos hpe]
 rw [hor] at HY HN
 have Hor2 : Hid (orE te (orE (statE st) (noteE nt)) = noteE nt) := Hor1.out.trans hor
 clear hpe hor Hor1
 by_cases hl : nt.size ≤ 200
 case neg =>
  have hne := note_long hl
  rw [hne] at HN
  have HQ : Hid (_ = _) := HN.out (by decide)
  have Hor : Hid (orE te (orE (statE st) (noteE nt)) = 95) := Hor2.out.trans hne
  have hl' : (200 : Int) < (nt.size : Int) := by omega
  clear HY HN hne
  rcases hp with hp | hp | hp
  all_goals
   subst hp
   go_wp2
   exact ret_box (g := w.heap.size + 1) (e := .int .i64 95) rfl rfl rfl rfl (load_chk (putC_all (l := [.string ⟨#[]⟩, .string ⟨#[]⟩, .string ⟨#[]⟩, .int .i64 0, .string ⟨#[]⟩, .int .u64 0, .int .u64 0]) HR3.out rfl) rfl) ⟨ret_agg HQ.out.symm Hor.out.symm, putC_below [.string ⟨#[]⟩, .string ⟨#[]⟩, .string ⟨#[]⟩, .int .i64 0, .string ⟨#[]⟩, .int .u64 0, .int .u64 0] w3 0 HB3.out (by omega)⟩
 have hl' : ¬ (200 : Int) < (nt.size : Int) := by omega
 have HG : Hid (noteTo nt nt.size → noteE nt = 0) := fun h => if_pos ⟨hl, h⟩
 have HBd : Hid (∀ k (hk : k < nt.size), ¬ (32 ≤ nt[k].toNat ∧ nt[k].toNat ≤ 126) → noteE nt = 95) := fun k hk h => note_bad hk h
 clear hl
 rcases hp with hp | hp | hp
 ·subst hp
  go_wp2
  go_loop [9] (fun x => ∃ k : Nat, k ≤ nt.size ∧ x = .int .i64 k ∧ Hid (noteTo nt k)) (fun x => nt.size - (intOf x).toNat)
  case atStart => exact ⟨0, Nat.zero_le _, rfl, fun i h h' => by omega⟩
  case round =>
   obtain ⟨k, hk, rfl, HK⟩ := hrel
   by_cases hlt : k < nt.size
   ·by_cases h32 : 32 ≤ nt[k].toNat
    ·have p1 : ¬ (nt[k].toNat : Int) < 32 := by omega
     by_cases h126 : nt[k].toNat ≤ 126
     ·have p2 : ¬ (126 : Int) < (nt[k].toNat : Int) := by omega
      have HNx : Hid (noteTo nt (k + 1)) := HK.out.next hlt ⟨h32, h126⟩
      go_wp2
      go_round
      case rel => exact ⟨k + 1, by omega, by go_num, HNx⟩
      case measure => simp [intOf]; omega
     ·have p2 : (126 : Int) < (nt[k].toNat : Int) := by omega
      have hne := HBd.out k hlt (by omega)
      rw [hne] at HN
      have HQ : Hid (_ = _) := HN.out (by decide)
      have Hor : Hid (orE te (orE (statE 1) (noteE nt)) = 95) := Hor2.out.trans hne
      clear HY HN hne HBd
      go_wp2
      exact ret_box (g := w.heap.size + 1) (e := .int .i64 95) rfl rfl rfl rfl (load_chk (putC_all (l := [.string ⟨#[]⟩, .string ⟨#[]⟩, .string ⟨#[]⟩, .int .i64 0, .string ⟨#[]⟩, .int .u64 0, .int .u64 0]) HR3.out rfl) rfl) ⟨ret_agg HQ.out.symm Hor.out.symm, putC_below [.string ⟨#[]⟩, .string ⟨#[]⟩, .string ⟨#[]⟩, .int .i64 0, .string ⟨#[]⟩, .int .u64 0, .int .u64 0] w3 0 HB3.out (by omega)⟩
    ·have p1 : (nt[k].toNat : Int) < 32 := by omega
     have hne := HBd.out k hlt (by omega)
     rw [hne] at HN
     have HQ : Hid (_ = _) := HN.out (by decide)
     have Hor : Hid (orE te (orE (statE 1) (noteE nt)) = 95) := Hor2.out.trans hne
     clear HY HN hne HBd
     go_wp2
     exact ret_box (g := w.heap.size + 1) (e := .int .i64 95) rfl rfl rfl rfl (load_chk (putC_all (l := [.string ⟨#[]⟩, .string ⟨#[]⟩, .string ⟨#[]⟩, .int .i64 0, .string ⟨#[]⟩, .int .u64 0, .int .u64 0]) HR3.out rfl) rfl) ⟨ret_agg HQ.out.symm Hor.out.symm, putC_below [.string ⟨#[]⟩, .string ⟨#[]⟩, .string ⟨#[]⟩, .int .i64 0, .string ⟨#[]⟩, .int .u64 0, .int .u64 0] w3 0 HB3.out (by omega)⟩
   ·obtain rfl : k = nt.size := by omega
    have hne := HG.out HK.out
    rw [hne] at HY
    have HQ : Hid (_ = _) := HY.out rfl
    have Hor : Hid (orE te (orE (statE 1) (noteE nt)) = 0) := Hor2.out.trans hne
    clear HY HN hne HBd HG
    go_wp2
    exact ret_box (g := w.heap.size + 1) (e := .int .i64 0) rfl rfl rfl rfl (load_chk (putC_all (l := [.string (labT nd), .string (labT id), .string (labT sv), .int .i64 1, .string nt, .int .u64 0, .int .u64 0]) HR3.out rfl) rfl) ⟨ret_agg HQ.out.symm Hor.out.symm, putC_below [.string (labT nd), .string (labT id), .string (labT sv), .int .i64 1, .string nt, .int .u64 0, .int .u64 0] w3 0 HB3.out (by omega)⟩
 ·subst hp
  go_wp2
  go_loop [9] (fun x => ∃ k : Nat, k ≤ nt.size ∧ x = .int .i64 k ∧ Hid (noteTo nt k)) (fun x => nt.size - (intOf x).toNat)
  case atStart => exact ⟨0, Nat.zero_le _, rfl, fun i h h' => by omega⟩
  case round =>
   obtain ⟨k, hk, rfl, HK⟩ := hrel
   by_cases hlt : k < nt.size
   ·by_cases h32 : 32 ≤ nt[k].toNat
    ·have p1 : ¬ (nt[k].toNat : Int) < 32 := by omega
     by_cases h126 : nt[k].toNat ≤ 126
     ·have p2 : ¬ (126 : Int) < (nt[k].toNat : Int) := by omega
      have HNx : Hid (noteTo nt (k + 1)) := HK.out.next hlt ⟨h32, h126⟩
      go_wp2
      go_round
      case rel => exact ⟨k + 1, by omega, by go_num, HNx⟩
      case measure => simp [intOf]; omega
     ·have p2 : (126 : Int) < (nt[k].toNat : Int) := by omega
      have hne := HBd.out k hlt (by omega)
      rw [hne] at HN
      have HQ : Hid (_ = _) := HN.out (by decide)
      have Hor : Hid (orE te (orE (statE 2) (noteE nt)) = 95) := Hor2.out.trans hne
      clear HY HN hne HBd
      go_wp2
      exact ret_box (g := w.heap.size + 1) (e := .int .i64 95) rfl rfl rfl rfl (load_chk (putC_all (l := [.string ⟨#[]⟩, .string ⟨#[]⟩, .string ⟨#[]⟩, .int .i64 0, .string ⟨#[]⟩, .int .u64 0, .int .u64 0]) HR3.out rfl) rfl) ⟨ret_agg HQ.out.symm Hor.out.symm, putC_below [.string ⟨#[]⟩, .string ⟨#[]⟩, .string ⟨#[]⟩, .int .i64 0, .string ⟨#[]⟩, .int .u64 0, .int .u64 0] w3 0 HB3.out (by omega)⟩
    ·have p1 : (nt[k].toNat : Int) < 32 := by omega
     have hne := HBd.out k hlt (by omega)
     rw [hne] at HN
     have HQ : Hid (_ = _) := HN.out (by decide)
     have Hor : Hid (orE te (orE (statE 2) (noteE nt)) = 95) := Hor2.out.trans hne
     clear HY HN hne HBd
     go_wp2
     exact ret_box (g := w.heap.size + 1) (e := .int .i64 95) rfl rfl rfl rfl (load_chk (putC_all (l := [.string ⟨#[]⟩, .string ⟨#[]⟩, .string ⟨#[]⟩, .int .i64 0, .string ⟨#[]⟩, .int .u64 0, .int .u64 0]) HR3.out rfl) rfl) ⟨ret_agg HQ.out.symm Hor.out.symm, putC_below [.string ⟨#[]⟩, .string ⟨#[]⟩, .string ⟨#[]⟩, .int .i64 0, .string ⟨#[]⟩, .int .u64 0, .int .u64 0] w3 0 HB3.out (by omega)⟩
   ·obtain rfl : k = nt.size := by omega
    have hne := HG.out HK.out
    rw [hne] at HY
    have HQ : Hid (_ = _) := HY.out rfl
    have Hor : Hid (orE te (orE (statE 2) (noteE nt)) = 0) := Hor2.out.trans hne
    clear HY HN hne HBd HG
    go_wp2
    exact ret_box (g := w.heap.size + 1) (e := .int .i64 0) rfl rfl rfl rfl (load_chk (putC_all (l := [.string (labT nd), .string (labT id), .string (labT sv), .int .i64 2, .string nt, .int .u64 0, .int .u64 0]) HR3.out rfl) rfl) ⟨ret_agg HQ.out.symm Hor.out.symm, putC_below [.string (labT nd), .string (labT id), .string (labT sv), .int .i64 2, .string nt, .int .u64 0, .int .u64 0] w3 0 HB3.out (by omega)⟩
 ·subst hp
  go_wp2
  go_loop [9] (fun x => ∃ k : Nat, k ≤ nt.size ∧ x = .int .i64 k ∧ Hid (noteTo nt k)) (fun x => nt.size - (intOf x).toNat)
  case atStart => exact ⟨0, Nat.zero_le _, rfl, fun i h h' => by omega⟩
  case round =>
   obtain ⟨k, hk, rfl, HK⟩ := hrel
   by_cases hlt : k < nt.size
   ·by_cases h32 : 32 ≤ nt[k].toNat
    ·have p1 : ¬ (nt[k].toNat : Int) < 32 := by omega
     by_cases h126 : nt[k].toNat ≤ 126
     ·have p2 : ¬ (126 : Int) < (nt[k].toNat : Int) := by omega
      have HNx : Hid (noteTo nt (k + 1)) := HK.out.next hlt ⟨h32, h126⟩
      go_wp2
      go_round
      case rel => exact ⟨k + 1, by omega, by go_num, HNx⟩
      case measure => simp [intOf]; omega
     ·have p2 : (126 : Int) < (nt[k].toNat : Int) := by omega
      have hne := HBd.out k hlt (by omega)
      rw [hne] at HN
      have HQ : Hid (_ = _) := HN.out (by decide)
      have Hor : Hid (orE te (orE (statE 3) (noteE nt)) = 95) := Hor2.out.trans hne
      clear HY HN hne HBd
      go_wp2
      exact ret_box (g := w.heap.size + 1) (e := .int .i64 95) rfl rfl rfl rfl (load_chk (putC_all (l := [.string ⟨#[]⟩, .string ⟨#[]⟩, .string ⟨#[]⟩, .int .i64 0, .string ⟨#[]⟩, .int .u64 0, .int .u64 0]) HR3.out rfl) rfl) ⟨ret_agg HQ.out.symm Hor.out.symm, putC_below [.string ⟨#[]⟩, .string ⟨#[]⟩, .string ⟨#[]⟩, .int .i64 0, .string ⟨#[]⟩, .int .u64 0, .int .u64 0] w3 0 HB3.out (by omega)⟩
    ·have p1 : (nt[k].toNat : Int) < 32 := by omega
     have hne := HBd.out k hlt (by omega)
     rw [hne] at HN
     have HQ : Hid (_ = _) := HN.out (by decide)
     have Hor : Hid (orE te (orE (statE 3) (noteE nt)) = 95) := Hor2.out.trans hne
     clear HY HN hne HBd
     go_wp2
     exact ret_box (g := w.heap.size + 1) (e := .int .i64 95) rfl rfl rfl rfl (load_chk (putC_all (l := [.string ⟨#[]⟩, .string ⟨#[]⟩, .string ⟨#[]⟩, .int .i64 0, .string ⟨#[]⟩, .int .u64 0, .int .u64 0]) HR3.out rfl) rfl) ⟨ret_agg HQ.out.symm Hor.out.symm, putC_below [.string ⟨#[]⟩, .string ⟨#[]⟩, .string ⟨#[]⟩, .int .i64 0, .string ⟨#[]⟩, .int .u64 0, .int .u64 0] w3 0 HB3.out (by omega)⟩
   ·obtain rfl : k = nt.size := by omega
    have hne := HG.out HK.out
    rw [hne] at HY
    have HQ : Hid (_ = _) := HY.out rfl
    have Hor : Hid (orE te (orE (statE 3) (noteE nt)) = 0) := Hor2.out.trans hne
    clear HY HN hne HBd HG
    go_wp2
    exact ret_box (g := w.heap.size + 1) (e := .int .i64 0) rfl rfl rfl rfl (load_chk (putC_all (l := [.string (labT nd), .string (labT id), .string (labT sv), .int .i64 3, .string nt, .int .u64 0, .int .u64 0]) HR3.out rfl) rfl) ⟨ret_agg HQ.out.symm Hor.out.symm, putC_below [.string (labT nd), .string (labT id), .string (labT sv), .int .i64 3, .string nt, .int .u64 0, .int .u64 0] w3 0 HB3.out (by omega)⟩
theorem refFixCheck_calls (c : Ck) (w : World) (hs : c.small) :
  Calls Tryz.prog 28 #[.agg c.v] w fun e w' => e = .returned (.tuple #[.agg (chkF c).v, .int .i64 (chkE c)]) ∧ Below w.heap.size w w' := by
 by_cases he : c.service.toList = []
 ·exact refFixCheck0_calls c he w hs
 ·exact refFixCheck1_calls c he w hs
end Go.Proofs.YthgcnmilaifkoaaGreatDoor
