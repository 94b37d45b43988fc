/- Layer 7 (rows): RowsProbes, the walk. -/
import Derived.Test.YtindefkngcelnaaRwTable
namespace Go.Proofs.Ytindefkngcelnaa
open Go.RowKit
set_option linter.unusedVariables false
attribute [local go_sem] Oper.semAt_some

theorem same_nil (a b : Option Addr) (c d : Nat) (w : World) : Calls Try.prog 20 #[.slice a 0 c, .slice b 0 d] w fun e w' => e = .returned (.bool true) ∧ Below w.heap.size w w' :=
  same_calls a b c d [] [] w (by simp) (by simp) (fun i p h => by simp at h) (fun i p h => by simp at h)

set_option maxRecDepth 100000 in
set_option maxHeartbeats 4000000 in
theorem rowsProbes_calls (text : ByteArray) (at' pl : Int) (pa : Option Addr) (pc : Nat) (ps : List Pt) (op : Bool) (w : World) (hs : text.size ≤ 140737488351232) (ha : -9223372036854775808 ≤ at' ∧ at' ≤ 9223372036854775807) (hp : -9223372036854775808 ≤ pl ∧ pl ≤ 9223372036854775807)
    (hpm : ps.length ≤ 4398046511103) (hps : PartsAt w pa ps) (hn : pa = none → pc = 0) (hsum : ∀ l, (enc op (ps.map (lowIf l))).length ≤ 70368744177664) (hts : ∀ q ∈ ps, q.t.size ≤ 70368744177000) :
    Calls Try.prog 6 #[.string text, .int .i64 at', .agg #[.int .i64 pl, .slice pa ps.length pc, .bool op]] w fun e w' => e = .returned (.bool true) ∧ Below w.heap.size w w' := by
  have HPS : Hid (PartsAt w pa ps) := hps
  have HSM : Hid ((∀ l, (enc op (ps.map (lowIf l))).length ≤ 70368744177664) ∧ ∀ q ∈ ps, q.t.size ≤ 70368744177000) := ⟨hsum, hts⟩
  clear hps hsum hts
  obtain ⟨w1, hw1⟩ : ∃ w1, w1 = w.alloc (.cells #[.int .i64 pl, .slice pa ps.length pc, .bool op] 49) := ⟨_, rfl⟩
  have HB1 : Hid (Below w.heap.size w w1) := by rw [hw1]; exact (Below.refl _ _).alloc (Nat.le_refl _) _
  have HQ1 : Hid (w1.heap[w.heap.size]? = some (.cells #[.int .i64 pl, .slice pa ps.length pc, .bool op] 49)) := by rw [Hid, hw1]; exact new_blk _ _
  go_enter Try.func6, Try.ntmps6
  go_wp2_with fail
  rw [← hw1]
  clear hw1
  refine (rowsFixed_calls w1).mono ?_
  rintro e w2 ⟨rfl, hb2⟩
  have HB2 : Hid (Below w.heap.size w w2) := HB1.out.trans (hb2.mono HB1.out.size)
  have HQ2 : Hid (w2.heap[w.heap.size]? = some (.cells #[.int .i64 pl, .slice pa ps.length pc, .bool op] 49)) := (hb2.block _ (lt_blk HQ1.out)).trans HQ1.out
  clear hb2 HB1 HQ1
  go_wp2_with fail
  refine (table_calls text at' w2 hs ha).mono ?_
  rintro e w3 ⟨hb3, hor⟩
  have HB3 : Hid (Below w.heap.size w w3) := HB2.out.trans (hb3.mono HB2.out.size)
  have HQ3 : Hid (w3.heap[w.heap.size]? = some (.cells #[.int .i64 pl, .slice pa ps.length pc, .bool op] 49)) := (hb3.block _ (lt_blk HQ2.out)).trans HQ2.out
  clear hb3 HB2 HQ2
  rcases hor with ⟨t, ht, rfl⟩ | rfl
  · have HTR : Hid (TRd w3 t) := ht
    clear ht
    go_upto_region 6 with fail
    obtain ⟨w4, hw4⟩ : ∃ w4, w4 = w3.alloc (.cells #[.string t.n, .slice t.fa t.fs.length t.fc, .slice t.xa t.xs.length t.xc] 29) := ⟨_, rfl⟩
    rw [← hw4]
    have hb4 : Below w3.heap.size w3 w4 := by rw [hw4]; exact (Below.refl _ _).alloc (Nat.le_refl _) _
    have HT4 : Hid (w4.heap[w3.heap.size]? = some (.cells #[.string t.n, .slice t.fa t.fs.length t.fc, .slice t.xa t.xs.length t.xc] 29)) := by rw [Hid, hw4]; exact new_blk _ _
    have HQ4 : Hid (w4.heap[w.heap.size]? = some (.cells #[.int .i64 pl, .slice pa ps.length pc, .bool op] 49)) := (hb4.block _ (lt_blk HQ3.out)).trans HQ3.out
    have HB4 : Hid (Below w.heap.size w w4) := HB3.out.trans (hb4.mono HB3.out.size)
    have HTR4 : Hid (TRd w4 t) := HTR.out.below hb4
    have q1 : w4.cell? ⟨w.heap.size, 1, none⟩ = some (.slice pa ps.length pc) := by rw [cell_blk HQ4.out]; rfl
    have hql : w.heap.size < w4.heap.size := lt_blk HQ4.out
    clear hw4 hb4 HB3 HQ3 HTR
    have hbe : Below w4.heap.size w4 (w4.alloc (.cells #[] 65)) := (Below.refl _ _).alloc (Nat.le_refl _) _
    have HO : Hid (OwnP (w4.alloc (.cells #[] 65)) w4.heap.size (.slice (some ⟨w4.heap.size, 0, none⟩) 0 0) []) := World.ownsRow_lit (size := 3) w4 #[] 0 (Nat.le_refl _) (by unfold maxLen; omega) rfl
    have HP5 : Hid (PartsAt (w4.alloc (.cells #[] 65)) pa ps) := (HPS.out.below HB4.out).below hbe
    clear hbe
    by_cases h0 : ps.length = 0
    · obtain rfl : ps = [] := List.length_eq_zero_iff.1 h0
      have hl0 : ([] : List Pt).length = 0 := rfl
      rw [hl0] at q1
      clear h0
      cases pa with
      | none =>
        obtain rfl : pc = 0 := hn rfl
        clear hn
        obtain ⟨w5, hw5⟩ : ∃ w5, w5 = w4.alloc (.cells #[] 65) := ⟨_, rfl⟩
        have HB45 : Hid (Below w4.heap.size w4 w5) := by rw [hw5]; exact (Below.refl _ _).alloc (Nat.le_refl _) _
        have HO5 : Hid (OwnP w5 w4.heap.size (.slice (some ⟨w4.heap.size, 0, none⟩) 0 0) []) := by rw [hw5]; exact HO.out
        clear HO HP5
        go_upto_region 7 with fail
        rw [← hw5]
        clear hw5
        have HT5 : Hid (w5.heap[w3.heap.size]? = some (.cells #[.string t.n, .slice t.fa t.fs.length t.fc, .slice t.xa t.xs.length t.xc] 29)) := (HB45.out.block _ (lt_blk HT4.out)).trans HT4.out
        have HQ5 : Hid (w5.heap[w.heap.size]? = some (.cells #[.int .i64 pl, .slice none 0 0, .bool op] 49)) := (HB45.out.block _ (lt_blk HQ4.out)).trans HQ4.out
        have HB5 : Hid (Below w.heap.size w w5) := HB4.out.trans (HB45.out.mono HB4.out.size)
        have HTR5 : Hid (TRd w5 t) := HTR4.out.below HB45.out
        clear HQ4 HT4 HTR4 HB45 q1
        have e0 : w5.cell? ⟨w3.heap.size, 0, none⟩ = some (.string t.n) := by rw [cell_blk HT5.out]; rfl
        have e1 : w5.cell? ⟨w3.heap.size, 1, none⟩ = some (.slice t.fa t.fs.length t.fc) := by rw [cell_blk HT5.out]; rfl
        have e2 : w5.cell? ⟨w3.heap.size, 2, none⟩ = some (.slice t.xa t.xs.length t.xc) := by rw [cell_blk HT5.out]; rfl
        have q0 : w5.cell? ⟨w.heap.size, 0, none⟩ = some (.int .i64 pl) := by rw [cell_blk HQ5.out]; rfl
        have q1 : w5.cell? ⟨w.heap.size, 1, none⟩ = some (.slice none 0 0) := by rw [cell_blk HQ5.out]; rfl
        have q2 : w5.cell? ⟨w.heap.size, 2, none⟩ = some (.bool op) := by rw [cell_blk HQ5.out]; rfl
        have HRP : Hid (Calls Try.prog 18 #[.agg #[.string t.n, .slice t.fa t.fs.length t.fc, .slice t.xa t.xs.length t.xc], .int .i64 pl, .slice none 0 0, .bool op] w5 fun e w' => e = .returned (.tuple #[.string ⟨(probeP t.tb pl [] op).1.toArray⟩, .int .i64 (probeP t.tb pl [] op).2]) ∧ Below w5.heap.size w5 w') := refProbe_calls t pl none 0 [] op w5 hp hpm HTR5.out (HPS.out.below HB5.out) HSM.out.1 HSM.out.2
        go_wp2_with fail
        refine HRP.out.mono ?_
        clear HRP
        rintro e w6 ⟨rfl, hb6⟩
        have HT6 : Hid (w6.heap[w3.heap.size]? = some (.cells #[.string t.n, .slice t.fa t.fs.length t.fc, .slice t.xa t.xs.length t.xc] 29)) := (hb6.block _ (lt_blk HT5.out)).trans HT5.out
        have HQ6 : Hid (w6.heap[w.heap.size]? = some (.cells #[.int .i64 pl, .slice none 0 0, .bool op] 49)) := (hb6.block _ (lt_blk HQ5.out)).trans HQ5.out
        have HB6 : Hid (Below w.heap.size w w6) := HB5.out.trans (hb6.mono HB5.out.size)
        have HTR6 : Hid (TRd w6 t) := HTR5.out.below hb6
        have HO6 : Hid (OwnP w6 w4.heap.size (.slice (some ⟨w4.heap.size, 0, none⟩) 0 0) []) := HO5.out.below hb6
        clear hb6 HQ5 HT5 HTR5 HO5 HB5 e0 e1 e2 q0 q1 q2
        have e0 : w6.cell? ⟨w3.heap.size, 0, none⟩ = some (.string t.n) := by rw [cell_blk HT6.out]; rfl
        have e1 : w6.cell? ⟨w3.heap.size, 1, none⟩ = some (.slice t.fa t.fs.length t.fc) := by rw [cell_blk HT6.out]; rfl
        have e2 : w6.cell? ⟨w3.heap.size, 2, none⟩ = some (.slice t.xa t.xs.length t.xc) := by rw [cell_blk HT6.out]; rfl
        have q0 : w6.cell? ⟨w.heap.size, 0, none⟩ = some (.int .i64 pl) := by rw [cell_blk HQ6.out]; rfl
        have q2 : w6.cell? ⟨w.heap.size, 2, none⟩ = some (.bool op) := by rw [cell_blk HQ6.out]; rfl
        have HPW : Hid (∀ q ∈ ([] : List Pt), q.wf) := parts_wf HPS.out
        have HCP : Hid (Calls Try.prog 19 #[.agg #[.string t.n, .slice t.fa t.fs.length t.fc, .slice t.xa t.xs.length t.xc], .int .i64 pl, .slice (some ⟨w4.heap.size, 0, none⟩) 0 0, .bool op] w6 fun e w' => e = .returned (.tuple #[.string ⟨(probeP t.tb pl [] op).1.toArray⟩, .int .i64 (probeP t.tb pl [] op).2]) ∧ Below w6.heap.size w6 w') := probe_calls t pl w4.heap.size 0 0 [] op w6 hp hpm HTR6.out (HO6.out.parts HPW.out)
        go_wp2_with fail
        refine HCP.out.mono ?_
        clear HCP
        rintro e w7 ⟨rfl, hb7⟩
        have HQ7 : Hid (w7.heap[w.heap.size]? = some (.cells #[.int .i64 pl, .slice none 0 0, .bool op] 49)) := (hb7.block _ (lt_blk HQ6.out)).trans HQ6.out
        have HB7 : Hid (Below w.heap.size w w7) := HB6.out.trans (hb7.mono HB6.out.size)
        have HO7 : Hid (OwnP w7 w4.heap.size (.slice (some ⟨w4.heap.size, 0, none⟩) 0 0) []) := HO6.out.below hb7
        clear hb7 HQ6 HT6 HTR6 HO6 HB6 e0 e1 e2 q0 q2
        have q1 : w7.cell? ⟨w.heap.size, 1, none⟩ = some (.slice none 0 0) := by rw [cell_blk HQ7.out]; rfl
        have HSQ : Hid (Calls Try.prog 20 #[.slice (some ⟨w4.heap.size, 0, none⟩) 0 0, .slice none 0 0] w7 fun e w' => e = .returned (.bool true) ∧ Below w7.heap.size w7 w') := same_nil _ _ _ _ w7
        generalize probeP t.tb pl [] op = PR at *
        obtain ⟨P1, P2⟩ := PR
        dsimp only at *
        have qa : ((⟨P1.toArray⟩ : ByteArray).toList == (⟨P1.toArray⟩ : ByteArray).toList) = true := beq_self_eq_true _
        have qb : (P2 == P2) = true := beq_self_eq_true _
        go_wp2_with fail
        refine HSQ.out.mono ?_
        clear HSQ
        rintro e w8 ⟨rfl, hb8⟩
        have HB8 : Hid (Below w.heap.size w w8) := HB7.out.trans (hb8.mono HB7.out.size)
        clear hb8
        go_wp2
        go_ret
        exact ⟨rfl, HB8.out⟩
      | some ad =>
        obtain ⟨w5, hw5⟩ : ∃ w5, w5 = w4.alloc (.cells #[] 65) := ⟨_, rfl⟩
        have HB45 : Hid (Below w4.heap.size w4 w5) := by rw [hw5]; exact (Below.refl _ _).alloc (Nat.le_refl _) _
        have HO5 : Hid (OwnP w5 w4.heap.size (.slice (some ⟨w4.heap.size, 0, none⟩) 0 0) []) := by rw [hw5]; exact HO.out
        clear HO HP5
        go_upto_region 7 with fail
        rw [← hw5]
        clear hw5
        have HT5 : Hid (w5.heap[w3.heap.size]? = some (.cells #[.string t.n, .slice t.fa t.fs.length t.fc, .slice t.xa t.xs.length t.xc] 29)) := (HB45.out.block _ (lt_blk HT4.out)).trans HT4.out
        have HQ5 : Hid (w5.heap[w.heap.size]? = some (.cells #[.int .i64 pl, .slice (some ad) 0 pc, .bool op] 49)) := (HB45.out.block _ (lt_blk HQ4.out)).trans HQ4.out
        have HB5 : Hid (Below w.heap.size w w5) := HB4.out.trans (HB45.out.mono HB4.out.size)
        have HTR5 : Hid (TRd w5 t) := HTR4.out.below HB45.out
        clear HQ4 HT4 HTR4 HB45 q1
        have e0 : w5.cell? ⟨w3.heap.size, 0, none⟩ = some (.string t.n) := by rw [cell_blk HT5.out]; rfl
        have e1 : w5.cell? ⟨w3.heap.size, 1, none⟩ = some (.slice t.fa t.fs.length t.fc) := by rw [cell_blk HT5.out]; rfl
        have e2 : w5.cell? ⟨w3.heap.size, 2, none⟩ = some (.slice t.xa t.xs.length t.xc) := by rw [cell_blk HT5.out]; rfl
        have q0 : w5.cell? ⟨w.heap.size, 0, none⟩ = some (.int .i64 pl) := by rw [cell_blk HQ5.out]; rfl
        have q1 : w5.cell? ⟨w.heap.size, 1, none⟩ = some (.slice (some ad) 0 pc) := by rw [cell_blk HQ5.out]; rfl
        have q2 : w5.cell? ⟨w.heap.size, 2, none⟩ = some (.bool op) := by rw [cell_blk HQ5.out]; rfl
        have HRP : Hid (Calls Try.prog 18 #[.agg #[.string t.n, .slice t.fa t.fs.length t.fc, .slice t.xa t.xs.length t.xc], .int .i64 pl, .slice (some ad) 0 pc, .bool op] w5 fun e w' => e = .returned (.tuple #[.string ⟨(probeP t.tb pl [] op).1.toArray⟩, .int .i64 (probeP t.tb pl [] op).2]) ∧ Below w5.heap.size w5 w') := refProbe_calls t pl (some ad) pc [] op w5 hp hpm HTR5.out (HPS.out.below HB5.out) HSM.out.1 HSM.out.2
        go_wp2_with fail
        refine HRP.out.mono ?_
        clear HRP
        rintro e w6 ⟨rfl, hb6⟩
        have HT6 : Hid (w6.heap[w3.heap.size]? = some (.cells #[.string t.n, .slice t.fa t.fs.length t.fc, .slice t.xa t.xs.length t.xc] 29)) := (hb6.block _ (lt_blk HT5.out)).trans HT5.out
        have HQ6 : Hid (w6.heap[w.heap.size]? = some (.cells #[.int .i64 pl, .slice (some ad) 0 pc, .bool op] 49)) := (hb6.block _ (lt_blk HQ5.out)).trans HQ5.out
        have HB6 : Hid (Below w.heap.size w w6) := HB5.out.trans (hb6.mono HB5.out.size)
        have HTR6 : Hid (TRd w6 t) := HTR5.out.below hb6
        have HO6 : Hid (OwnP w6 w4.heap.size (.slice (some ⟨w4.heap.size, 0, none⟩) 0 0) []) := HO5.out.below hb6
        clear hb6 HQ5 HT5 HTR5 HO5 HB5 e0 e1 e2 q0 q1 q2
        have e0 : w6.cell? ⟨w3.heap.size, 0, none⟩ = some (.string t.n) := by rw [cell_blk HT6.out]; rfl
        have e1 : w6.cell? ⟨w3.heap.size, 1, none⟩ = some (.slice t.fa t.fs.length t.fc) := by rw [cell_blk HT6.out]; rfl
        have e2 : w6.cell? ⟨w3.heap.size, 2, none⟩ = some (.slice t.xa t.xs.length t.xc) := by rw [cell_blk HT6.out]; rfl
        have q0 : w6.cell? ⟨w.heap.size, 0, none⟩ = some (.int .i64 pl) := by rw [cell_blk HQ6.out]; rfl
        have q2 : w6.cell? ⟨w.heap.size, 2, none⟩ = some (.bool op) := by rw [cell_blk HQ6.out]; rfl
        have HPW : Hid (∀ q ∈ ([] : List Pt), q.wf) := parts_wf HPS.out
        have HCP : Hid (Calls Try.prog 19 #[.agg #[.string t.n, .slice t.fa t.fs.length t.fc, .slice t.xa t.xs.length t.xc], .int .i64 pl, .slice (some ⟨w4.heap.size, 0, none⟩) 0 0, .bool op] w6 fun e w' => e = .returned (.tuple #[.string ⟨(probeP t.tb pl [] op).1.toArray⟩, .int .i64 (probeP t.tb pl [] op).2]) ∧ Below w6.heap.size w6 w') := probe_calls t pl w4.heap.size 0 0 [] op w6 hp hpm HTR6.out (HO6.out.parts HPW.out)
        go_wp2_with fail
        refine HCP.out.mono ?_
        clear HCP
        rintro e w7 ⟨rfl, hb7⟩
        have HQ7 : Hid (w7.heap[w.heap.size]? = some (.cells #[.int .i64 pl, .slice (some ad) 0 pc, .bool op] 49)) := (hb7.block _ (lt_blk HQ6.out)).trans HQ6.out
        have HB7 : Hid (Below w.heap.size w w7) := HB6.out.trans (hb7.mono HB6.out.size)
        have HO7 : Hid (OwnP w7 w4.heap.size (.slice (some ⟨w4.heap.size, 0, none⟩) 0 0) []) := HO6.out.below hb7
        clear hb7 HQ6 HT6 HTR6 HO6 HB6 e0 e1 e2 q0 q2
        have q1 : w7.cell? ⟨w.heap.size, 1, none⟩ = some (.slice (some ad) 0 pc) := by rw [cell_blk HQ7.out]; rfl
        have HSQ : Hid (Calls Try.prog 20 #[.slice (some ⟨w4.heap.size, 0, none⟩) 0 0, .slice (some ad) 0 pc] w7 fun e w' => e = .returned (.bool true) ∧ Below w7.heap.size w7 w') := same_nil _ _ _ _ w7
        generalize probeP t.tb pl [] op = PR at *
        obtain ⟨P1, P2⟩ := PR
        dsimp only at *
        have qa : ((⟨P1.toArray⟩ : ByteArray).toList == (⟨P1.toArray⟩ : ByteArray).toList) = true := beq_self_eq_true _
        have qb : (P2 == P2) = true := beq_self_eq_true _
        go_wp2_with fail
        refine HSQ.out.mono ?_
        clear HSQ
        rintro e w8 ⟨rfl, hb8⟩
        have HB8 : Hid (Below w.heap.size w w8) := HB7.out.trans (hb8.mono HB7.out.size)
        clear hb8
        go_wp2
        go_ret
        exact ⟨rfl, HB8.out⟩
    · obtain ⟨b, off, rfl, -⟩ := HPS.out 0 ps[0] (List.getElem?_eq_getElem (by omega))
      go_wp2_with (at_builtin; go_must (refine append_from _ rfl (.tmp 24) (.tmp 26) rfl w4.heap.size _ [] rfl b off ps.length pc ps rfl rfl HP5.out HO.out (by simp; omega) (by simp) ?_))
      intro v5 w5 ho5 hg5 hn5
      have HB45 : Hid (Below w4.heap.size w4 w5) := ((Below.refl _ _).alloc (Nat.le_refl _) _).trans ((HO.out.toBelow (by simp) hg5).mono (Nat.le_refl _))
      have ho5 : OwnP w5 w4.heap.size v5 ps := ho5
      obtain ⟨g, c, rfl⟩ : ∃ g c, v5 = .slice (some ⟨g, 0, none⟩) ps.length c := by
        rcases ho5.2 with ⟨rfl, h0'⟩ | ⟨g, c, cur, rfl, _⟩
        · exact absurd h0' h0
        · exact ⟨g, c, rfl⟩
      have HO5 : Hid (OwnP w5 w4.heap.size (.slice (some ⟨g, 0, none⟩) ps.length c) ps) := ho5
      clear ho5 hg5 hn5 HO HP5 h0
      go_upto_region 7 with fail
      have HT5 : Hid (w5.heap[w3.heap.size]? = some (.cells #[.string t.n, .slice t.fa t.fs.length t.fc, .slice t.xa t.xs.length t.xc] 29)) := (HB45.out.block _ (lt_blk HT4.out)).trans HT4.out
      have HQ5 : Hid (w5.heap[w.heap.size]? = some (.cells #[.int .i64 pl, .slice (some ⟨b, off, none⟩) ps.length pc, .bool op] 49)) := (HB45.out.block _ (lt_blk HQ4.out)).trans HQ4.out
      have HB5 : Hid (Below w.heap.size w w5) := HB4.out.trans (HB45.out.mono HB4.out.size)
      have HTR5 : Hid (TRd w5 t) := HTR4.out.below HB45.out
      clear HQ4 HT4 HTR4 HB45 q1
      have e0 : w5.cell? ⟨w3.heap.size, 0, none⟩ = some (.string t.n) := by rw [cell_blk HT5.out]; rfl
      have e1 : w5.cell? ⟨w3.heap.size, 1, none⟩ = some (.slice t.fa t.fs.length t.fc) := by rw [cell_blk HT5.out]; rfl
      have e2 : w5.cell? ⟨w3.heap.size, 2, none⟩ = some (.slice t.xa t.xs.length t.xc) := by rw [cell_blk HT5.out]; rfl
      have q0 : w5.cell? ⟨w.heap.size, 0, none⟩ = some (.int .i64 pl) := by rw [cell_blk HQ5.out]; rfl
      have q1 : w5.cell? ⟨w.heap.size, 1, none⟩ = some (.slice (some ⟨b, off, none⟩) ps.length pc) := by rw [cell_blk HQ5.out]; rfl
      have q2 : w5.cell? ⟨w.heap.size, 2, none⟩ = some (.bool op) := by rw [cell_blk HQ5.out]; rfl
      have HRP : Hid (Calls Try.prog 18 #[.agg #[.string t.n, .slice t.fa t.fs.length t.fc, .slice t.xa t.xs.length t.xc], .int .i64 pl, .slice (some ⟨b, off, none⟩) ps.length pc, .bool op] w5 fun e w' => e = .returned (.tuple #[.string ⟨(probeP t.tb pl ps op).1.toArray⟩, .int .i64 (probeP t.tb pl ps op).2]) ∧ Below w5.heap.size w5 w') := refProbe_calls t pl (some ⟨b, off, none⟩) pc ps op w5 hp hpm HTR5.out (HPS.out.below HB5.out) HSM.out.1 HSM.out.2
      go_wp2_with fail
      refine HRP.out.mono ?_
      clear HRP
      rintro e w6 ⟨rfl, hb6⟩
      have HT6 : Hid (w6.heap[w3.heap.size]? = some (.cells #[.string t.n, .slice t.fa t.fs.length t.fc, .slice t.xa t.xs.length t.xc] 29)) := (hb6.block _ (lt_blk HT5.out)).trans HT5.out
      have HQ6 : Hid (w6.heap[w.heap.size]? = some (.cells #[.int .i64 pl, .slice (some ⟨b, off, none⟩) ps.length pc, .bool op] 49)) := (hb6.block _ (lt_blk HQ5.out)).trans HQ5.out
      have HB6 : Hid (Below w.heap.size w w6) := HB5.out.trans (hb6.mono HB5.out.size)
      have HTR6 : Hid (TRd w6 t) := HTR5.out.below hb6
      have HO6 : Hid (OwnP w6 w4.heap.size (.slice (some ⟨g, 0, none⟩) ps.length c) ps) := HO5.out.below hb6
      clear hb6 HQ5 HT5 HTR5 HO5 HB5 e0 e1 e2 q0 q1 q2
      have e0 : w6.cell? ⟨w3.heap.size, 0, none⟩ = some (.string t.n) := by rw [cell_blk HT6.out]; rfl
      have e1 : w6.cell? ⟨w3.heap.size, 1, none⟩ = some (.slice t.fa t.fs.length t.fc) := by rw [cell_blk HT6.out]; rfl
      have e2 : w6.cell? ⟨w3.heap.size, 2, none⟩ = some (.slice t.xa t.xs.length t.xc) := by rw [cell_blk HT6.out]; rfl
      have q0 : w6.cell? ⟨w.heap.size, 0, none⟩ = some (.int .i64 pl) := by rw [cell_blk HQ6.out]; rfl
      have q2 : w6.cell? ⟨w.heap.size, 2, none⟩ = some (.bool op) := by rw [cell_blk HQ6.out]; rfl
      have HPW : Hid (∀ q ∈ (ps : List Pt), q.wf) := parts_wf HPS.out
      have HCP : Hid (Calls Try.prog 19 #[.agg #[.string t.n, .slice t.fa t.fs.length t.fc, .slice t.xa t.xs.length t.xc], .int .i64 pl, .slice (some ⟨g, 0, none⟩) ps.length c, .bool op] w6 fun e w' => e = .returned (.tuple #[.string ⟨(probeP t.tb pl ps op).1.toArray⟩, .int .i64 (probeP t.tb pl ps op).2]) ∧ Below w6.heap.size w6 w') := probe_calls t pl g 0 c ps op w6 hp hpm HTR6.out (HO6.out.parts HPW.out)
      go_wp2_with fail
      refine HCP.out.mono ?_
      clear HCP
      rintro e w7 ⟨rfl, hb7⟩
      have HQ7 : Hid (w7.heap[w.heap.size]? = some (.cells #[.int .i64 pl, .slice (some ⟨b, off, none⟩) ps.length pc, .bool op] 49)) := (hb7.block _ (lt_blk HQ6.out)).trans HQ6.out
      have HB7 : Hid (Below w.heap.size w w7) := HB6.out.trans (hb7.mono HB6.out.size)
      have HO7 : Hid (OwnP w7 w4.heap.size (.slice (some ⟨g, 0, none⟩) ps.length c) ps) := HO6.out.below hb7
      clear hb7 HQ6 HT6 HTR6 HO6 HB6 e0 e1 e2 q0 q2
      have q1 : w7.cell? ⟨w.heap.size, 1, none⟩ = some (.slice (some ⟨b, off, none⟩) ps.length pc) := by rw [cell_blk HQ7.out]; rfl
      have hsb : sameB (ps : List Pt) ps = true := (sameB_iff _ _).2 rfl
      have HSQ : Hid (Calls Try.prog 20 #[.slice (some ⟨g, 0, none⟩) ps.length c, .slice (some ⟨b, off, none⟩) ps.length pc] w7 fun e w' => e = .returned (.bool true) ∧ Below w7.heap.size w7 w') := (same_calls (some ⟨g, 0, none⟩) (some ⟨b, off, none⟩) c pc ps ps w7 (by omega) (by omega) (HO7.out.parts HPW.out) (HPS.out.below HB7.out)).mono (fun e w' h => ⟨by rw [h.1, hsb], h.2⟩)
      clear hsb
      generalize probeP t.tb pl ps op = PR at *
      obtain ⟨P1, P2⟩ := PR
      dsimp only at *
      have qa : ((⟨P1.toArray⟩ : ByteArray).toList == (⟨P1.toArray⟩ : ByteArray).toList) = true := beq_self_eq_true _
      have qb : (P2 == P2) = true := beq_self_eq_true _
      go_wp2_with fail
      refine HSQ.out.mono ?_
      clear HSQ
      rintro e w8 ⟨rfl, hb8⟩
      have HB8 : Hid (Below w.heap.size w w8) := HB7.out.trans (hb8.mono HB7.out.size)
      clear hb8
      go_wp2
      go_ret
      exact ⟨rfl, HB8.out⟩
  · go_wp2
    go_ret
    exact ⟨rfl, HB3.out.alloc HB3.out.size _⟩
end Go.Proofs.Ytindefkngcelnaa
