/- Layer 7 (rows): a row in memory; ownParts, elementsOf. -/
import Derived.Test.YtgjcchafmcccjaaGreatDoorRwHas
namespace Go.Proofs.YtgjcchafmcccjaaGreatDoor
open Go.RowKit
set_option linter.unusedVariables false

/-- A cell with the slice that holds its list. -/
structure CV where
  t : ByteArray
  n : Int
  l : List ByteArray
  la : Option Addr
  lc : Nat
def ccs (cs : List CV) : List Value := cs.flatMap fun c => [.string c.t, .int .u64 c.n, .slice c.la c.l.length c.lc]
def CV.wf (c : CV) : Prop := c.t.size ≤ 140737488351232 ∧ (0 ≤ c.n ∧ c.n ≤ 18446744073709551615) ∧ (∀ s ∈ c.l, s.size ≤ 140737488351232) ∧ c.l.length ≤ 8796093022208
theorem CellsAt.cel {w : World} {ao : Option Addr} {cs : List CV} (h : CellsAt w ao (ccs cs)) (k : Nat) (hk : k < cs.length) :
    ∃ b off, ao = some ⟨b, off, none⟩ ∧ w.cell? ⟨b, off + k * 3, none⟩ = some (.string cs[k].t) ∧ w.cell? ⟨b, off + k * 3 + 1, none⟩ = some (.int .u64 cs[k].n) ∧ w.cell? ⟨b, off + k * 3 + 2, none⟩ = some (.slice cs[k].la cs[k].l.length cs[k].lc) := by
  obtain ⟨b, off, ha, hc⟩ := h (flat_ne _ 3 (fun _ => rfl) (by decide) hk)
  have hg : cs[k]? = some cs[k] := by simp [hk]
  refine ⟨b, off, ha, hc _ _ ?_, ?_, ?_⟩
  · exact flat_at _ 3 (fun _ => rfl) cs k 0 _ hg (by decide)
  · rw [Nat.add_assoc]; exact hc _ _ (flat_at _ 3 (fun _ => rfl) cs k 1 _ hg (by decide))
  · rw [Nat.add_assoc]; exact hc _ _ (flat_at _ 3 (fun _ => rfl) cs k 2 _ hg (by decide))
structure RowAt (w : World) (ca : Option Addr) (cs : List CV) : Prop where
  row : CellsAt w ca (ccs cs)
  lst : ∀ c ∈ cs, CellsAt w c.la (c.l.map Value.string)
  wf : ∀ c ∈ cs, c.wf
theorem RowAt.below {w w' : World} {ca : Option Addr} {cs : List CV} (h : RowAt w ca cs) (hb : Below w.heap.size w w') : RowAt w' ca cs := ⟨h.row.below hb, fun c hc => (h.lst c hc).below hb, h.wf⟩

def noC : CV := ⟨⟨#[]⟩, 0, [], none, 0⟩
def noF : Fd := ⟨⟨#[]⟩, 0⟩
def cellP (fs : List Fd) (cs : List CV) (e : ByteArray) (p : Int) : Pt :=
  ⟨partK (fs.getD p.toNat noF).k, if (fs.getD p.toNat noF).k = 1 then (cs.getD p.toNat noC).t else if (fs.getD p.toNat noF).k = 3 then e else ⟨#[]⟩, if (fs.getD p.toNat noF).k = 2 then (cs.getD p.toNat noC).n else 0⟩
def ownP (fs : List Fd) (x : Ix) (cs : List CV) (e : ByteArray) : List Pt := if x.l then (x.ov.map (cellP fs cs e)).map lowPt else x.ov.map (cellP fs cs e)
theorem cellP_at {fs : List Fd} {cs : List CV} (e : ByteArray) {p : Nat} (h1 : p < fs.length) (h2 : p < cs.length) : cellP fs cs e (p : Int) = ⟨partK fs[p].k, if fs[p].k = 1 then cs[p].t else if fs[p].k = 3 then e else ⟨#[]⟩, if fs[p].k = 2 then cs[p].n else 0⟩ := by
  unfold cellP
  rw [show ((p : Int).toNat) = p from rfl, List.getD_eq_getElem?_getD, List.getElem?_eq_getElem h1, List.getD_eq_getElem?_getD, List.getElem?_eq_getElem h2]
  rfl
theorem cellP_wf {fs : List Fd} {cs : List CV} {e : ByteArray} {p : Nat} (h1 : p < fs.length) (h2 : p < cs.length) (hw : cs[p].wf) (he : e.size ≤ 140737488351232) : (cellP fs cs e (p : Int)).wf := by
  rw [cellP_at e h1 h2]
  refine ⟨?_, ?_, ?_⟩
  · show _ ≤ partK _ ∧ partK _ ≤ _
    unfold partK
    split
    · exact ⟨by omega, by omega⟩
    · split
      · exact ⟨by omega, by omega⟩
      · exact ⟨by omega, by omega⟩
  · dsimp only
    split
    · exact hw.2.1
    · exact ⟨by omega, by omega⟩
  · dsimp only
    split
    · exact hw.1
    · split
      · exact he
      · show (0 : Nat) ≤ _
        omega

/-- What is asked of an index over a row's cells. -/
structure OvOk (x : XV) (fs : List Fd) (cs : List CV) : Prop where
  one : 0 < x.x.ov.length
  most : x.x.ov.length ≤ 4
  place : ∀ p ∈ x.x.ov, 0 ≤ p ∧ p < fs.length
  same : cs.length = fs.length
  fmost : fs.length ≤ 16
  kind : ∀ f ∈ fs, 1 ≤ f.k ∧ f.k ≤ 3

theorem own_step {w wr w1 : World} {v9 v1 : Value} {ps : List Pt} {cs0 : Array Value} (HP : OwnP wr w.heap.size v9 ps) (HB : Below w.heap.size w wr ∧ wr.heap[w.heap.size]? = some (.cells cs0 67)) (o : Obj) (hg : Grew (wr.alloc o) w1 v9 v1) : Below w.heap.size w w1 ∧ w1.heap[w.heap.size]? = some (.cells cs0 67) := by
  have h1 := HP.alloc o
  have hb := old_blk HB.2 o
  refine ⟨(HB.1.alloc HB.1.size o).trans ((h1.toBelow (by simp only [World.size_alloc]; have := HB.1.size; omega) hg)), (hg.grown.block _ (lt_blk hb) (fun e => row_ne h1 hb (by decide) e.symm)).trans hb⟩

set_option maxRecDepth 100000 in
set_option maxHeartbeats 2000000 in
theorem ownParts_calls (fa : Option Addr) (fc : Nat) (fs : List Fd) (x : XV) (ca : Option Addr) (cc : Nat) (cs : List CV) (e : ByteArray) (w : World) (hok : OvOk x fs cs) (he : e.size ≤ 140737488351232) (hf : CellsAt w fa (fcs fs)) (ho : CellsAt w x.va (ics x.x.ov)) (hr : RowAt w ca cs) :
    Calls Tryz.prog 51 #[.slice fa fs.length fc, .agg #[.string x.x.n, .slice x.va x.x.ov.length x.vc, .bool x.x.u, .bool x.x.l, .bool x.x.s], .slice ca cs.length cc, .string e] w fun e' w' => (∃ g c, e' = .returned (.slice (some ⟨g, 0, none⟩) x.x.ov.length c) ∧ OwnP w' w.heap.size (.slice (some ⟨g, 0, none⟩) x.x.ov.length c) (ownP fs x.x cs e)) ∧ Below w.heap.size w w' := by
  have HOK : Hid (OvOk x fs cs) := hok
  have HF : Hid (CellsAt w fa (fcs fs)) := hf
  have HO : Hid (CellsAt w x.va (ics x.x.ov)) := ho
  have HR : Hid (RowAt w ca cs) := hr
  have hfm := hok.fmost
  have hom := hok.most
  have hone := hok.one
  clear hok hf ho hr
  obtain ⟨⟨xn, ov, u, l, s⟩, va, vc⟩ := x
  dsimp only at *
  go_enter Tryz.func51, Tryz.ntmps51
  go_wp2
  go_loopw [9, 11, 12, 16] (fun v9 a11 a12 i wr => ∃ (k : Nat) (a9 : Option Addr) (c9 : Nat), k ≤ ov.length ∧ i = .int .i64 k ∧ v9 = .slice a9 k c9 ∧ Hid (OwnP wr w.heap.size (.slice a9 k c9) ((ov.take k).map (cellP fs cs e))) ∧ Hid (Below w.heap.size w wr ∧ wr.heap[w.heap.size]? = some (.cells #[.string xn, .slice va ov.length vc, .bool u, .bool l, .bool s] 67))) (fun _ _ _ i _ => ov.length - (intOf i).toNat)
  case atStart => exact ⟨0, none, 0, Nat.zero_le _, rfl, rfl, OwnP.nil _ _, (Below.refl _ _).alloc (Nat.le_refl _) _, new_blk _ _⟩
  case round =>
    obtain ⟨k, a9, c9, hk, rfl, rfl, HP, HB⟩ := hrel
    by_cases hlt : k < ov.length
    · obtain ⟨ob, oo, rfl, c0⟩ := (HO.out.below HB.out.1).num k hlt
      have hpl := HOK.out.place ov[k] (List.getElem_mem hlt)
      obtain ⟨p, hp⟩ : ∃ p : Nat, ov[k] = (p : Int) := ⟨ov[k].toNat, by omega⟩
      have hpf : p < fs.length := by omega
      have hpc : p < cs.length := by have := HOK.out.same; omega
      have HT : Hid ((ov.take (k + 1)).map (cellP fs cs e) = (ov.take k).map (cellP fs cs e) ++ [cellP fs cs e (p : Int)]) := by rw [Hid, List.take_succ_eq_append_getElem hlt, List.map_append, List.map_cons, List.map_nil, hp]
      rw [hp] at c0
      clear hpl hp
      have HPK : Hid (Calls Tryz.prog 73 #[.slice fa fs.length fc, .int .i64 p] wr fun e w' => e = .returned (.int .i64 (partK fs[p].k)) ∧ w' = wr) := partKind_calls fa fc fs p wr hfm hpf (HF.out.below HB.out.1)
      have HKA : Hid (∀ W, Below wr.heap.size wr W → Calls Tryz.prog 74 #[.slice fa fs.length fc, .int .i64 p] W fun e w' => e = .returned (.int .i64 fs[p].k) ∧ w' = W) := fun W hW => kindAt_calls fa fc fs p W hfm hpf ((HF.out.below HB.out.1).below hW)
      obtain ⟨cb, co, rfl, d0, d1, d2⟩ := ((HR.out.below HB.out.1).row).cel p hpc
      have hkk := HOK.out.kind fs[p] (List.getElem_mem hpf)
      have HCP := cellP_at (fs := fs) (cs := cs) e hpf hpc
      have HCP : Hid (cellP fs cs e (p : Int) = ⟨partK fs[p].k, if fs[p].k = 1 then cs[p].t else if fs[p].k = 3 then e else ⟨#[]⟩, if fs[p].k = 2 then cs[p].n else 0⟩) := HCP
      have hcbl : cb < wr.heap.size := World.block_lt_of_cell? wr _ d0
      generalize fs[p].k = kk at *
      have hk3 : kk = 1 ∨ kk = 2 ∨ kk = 3 := by omega
      rcases hk3 with rfl | rfl | rfl
      · have HCQ : Hid (cellP fs cs e (p : Int) = ⟨partK 1, cs[p].t, 0⟩) := by rw [Hid, HCP.out]; simp
        clear hkk HCP
        go_wp2_with fail
        refine HPK.out.mono ?_
        clear HPK
        rintro e1 w1 ⟨rfl, hw1⟩
        rw [hw1]
        clear hw1
        go_upto_region 6 with fail
        go_wp2_with fail
        refine (HKA.out _ ((Below.refl _ _).alloc (Nat.le_refl _) _)).mono ?_
        clear HKA
        rintro e1 w1 ⟨rfl, hw1⟩
        rw [hw1]
        clear hw1
        go_wp2_with (at_builtin; go_must (refine append_part _ rfl (.tmp 47) (.tmp 49) rfl w.heap.size _ ((ov.take k).map (cellP fs cs e)) rfl [⟨partK 1, cs[p].t, 0⟩] _ 1 1 _ rfl rfl rfl (World.size_alloc _ _).symm (HP.out.alloc _) (by simp; omega) (by have := HB.out.1.size; simp only [World.size_alloc]; omega) ?_))
        intro v1 w1 ho1 hg1
        have HB1 : Hid (Below w.heap.size w w1 ∧ w1.heap[w.heap.size]? = some (.cells #[.string xn, .slice (some ⟨ob, oo, none⟩) ov.length vc, .bool u, .bool l, .bool s] 67)) := own_step HP.out HB.out _ hg1
        have HP1 : Hid (OwnP w1 w.heap.size v1 ((ov.take (k + 1)).map (cellP fs cs e))) := by rw [Hid, HT.out, HCQ.out, List.map_take]; exact ho1
        obtain ⟨a1, c1, rfl⟩ := HP1.out.shape
        have hl1 : ((ov.take (k + 1)).map (cellP fs cs e)).length = k + 1 := by simp; omega
        rw [hl1] at HP1 ⊢
        clear ho1 hg1 hl1
        go_wp2
        go_roundw
        case rel => exact ⟨k + 1, a1, c1, by omega, by go_num, rfl, HP1, HB1⟩
        case measure => simp [intOf]; omega
      · have HCQ : Hid (cellP fs cs e (p : Int) = ⟨partK 2, ⟨#[]⟩, cs[p].n⟩) := by rw [Hid, HCP.out]; simp
        clear hkk HCP
        go_wp2_with fail
        refine HPK.out.mono ?_
        clear HPK
        rintro e1 w1 ⟨rfl, hw1⟩
        rw [hw1]
        clear hw1
        go_upto_region 6 with fail
        go_wp2_with fail
        refine (HKA.out _ ((Below.refl _ _).alloc (Nat.le_refl _) _)).mono ?_
        clear HKA
        rintro e1 w1 ⟨rfl, hw1⟩
        rw [hw1]
        clear hw1
        go_wp2_with (at_builtin; go_must (refine append_part _ rfl (.tmp 47) (.tmp 49) rfl w.heap.size _ ((ov.take k).map (cellP fs cs e)) rfl [⟨partK 2, ⟨#[]⟩, cs[p].n⟩] _ 1 1 _ rfl rfl rfl (World.size_alloc _ _).symm (HP.out.alloc _) (by simp; omega) (by have := HB.out.1.size; simp only [World.size_alloc]; omega) ?_))
        intro v1 w1 ho1 hg1
        have HB1 : Hid (Below w.heap.size w w1 ∧ w1.heap[w.heap.size]? = some (.cells #[.string xn, .slice (some ⟨ob, oo, none⟩) ov.length vc, .bool u, .bool l, .bool s] 67)) := own_step HP.out HB.out _ hg1
        have HP1 : Hid (OwnP w1 w.heap.size v1 ((ov.take (k + 1)).map (cellP fs cs e))) := by rw [Hid, HT.out, HCQ.out, List.map_take]; exact ho1
        obtain ⟨a1, c1, rfl⟩ := HP1.out.shape
        have hl1 : ((ov.take (k + 1)).map (cellP fs cs e)).length = k + 1 := by simp; omega
        rw [hl1] at HP1 ⊢
        clear ho1 hg1 hl1
        go_wp2
        go_roundw
        case rel => exact ⟨k + 1, a1, c1, by omega, by go_num, rfl, HP1, HB1⟩
        case measure => simp [intOf]; omega
      · have HCQ : Hid (cellP fs cs e (p : Int) = ⟨partK 3, e, 0⟩) := by rw [Hid, HCP.out]; simp
        clear hkk HCP
        go_wp2_with fail
        refine HPK.out.mono ?_
        clear HPK
        rintro e1 w1 ⟨rfl, hw1⟩
        rw [hw1]
        clear hw1
        go_upto_region 6 with fail
        go_wp2_with fail
        refine (HKA.out _ ((Below.refl _ _).alloc (Nat.le_refl _) _)).mono ?_
        clear HKA
        rintro e1 w1 ⟨rfl, hw1⟩
        rw [hw1]
        clear hw1
        go_wp2_with (at_builtin; go_must (refine append_part _ rfl (.tmp 47) (.tmp 49) rfl w.heap.size _ ((ov.take k).map (cellP fs cs e)) rfl [⟨partK 3, e, 0⟩] _ 1 1 _ rfl rfl rfl (World.size_alloc _ _).symm (HP.out.alloc _) (by simp; omega) (by have := HB.out.1.size; simp only [World.size_alloc]; omega) ?_))
        intro v1 w1 ho1 hg1
        have HB1 : Hid (Below w.heap.size w w1 ∧ w1.heap[w.heap.size]? = some (.cells #[.string xn, .slice (some ⟨ob, oo, none⟩) ov.length vc, .bool u, .bool l, .bool s] 67)) := own_step HP.out HB.out _ hg1
        have HP1 : Hid (OwnP w1 w.heap.size v1 ((ov.take (k + 1)).map (cellP fs cs e))) := by rw [Hid, HT.out, HCQ.out, List.map_take]; exact ho1
        obtain ⟨a1, c1, rfl⟩ := HP1.out.shape
        have hl1 : ((ov.take (k + 1)).map (cellP fs cs e)).length = k + 1 := by simp; omega
        rw [hl1] at HP1 ⊢
        clear ho1 hg1 hl1
        go_wp2
        go_roundw
        case rel => exact ⟨k + 1, a1, c1, by omega, by go_num, rfl, HP1, HB1⟩
        case measure => simp [intOf]; omega
    · obtain rfl : k = ov.length := by omega
      rw [show ov.take ov.length = ov from List.take_length] at HP
      have x3 : wr.cell? ⟨w.heap.size, 3, none⟩ = some (.bool l) := by rw [cell_blk HB.out.2]; rfl
      have hne : ∃ g, a9 = some ⟨g, 0, none⟩ := by
        rcases HP.out.2 with ⟨he', h0⟩ | ⟨g, c, cur, he', _⟩
        · rw [List.length_map] at h0; omega
        · simp only [Value.slice.injEq] at he'
          exact ⟨g, he'.1⟩
      obtain ⟨g9, rfl⟩ := hne
      have HPW : Hid (∀ q ∈ ov.map (cellP fs cs e), q.wf) := by
        intro q hq
        obtain ⟨p, hp, rfl⟩ := List.mem_map.1 hq
        have hpl := HOK.out.place p hp
        obtain ⟨p', rfl⟩ : ∃ p' : Nat, p = (p' : Int) := ⟨p.toNat, by omega⟩
        have h2 : p' < cs.length := by have := HOK.out.same; omega
        exact cellP_wf (by omega) h2 (HR.out.wf _ (List.getElem_mem h2)) he
      cases l with
      | true =>
        have hml : (ov.map (cellP fs cs e)).length = ov.length := List.length_map _
        have HLP := lowParts_calls g9 0 c9 (ov.map (cellP fs cs e)) wr (by rw [hml]; omega) (HP.out.parts HPW.out)
        rw [hml] at HLP
        have HLP : Hid (Calls Tryz.prog 75 #[.slice (some ⟨g9, 0, none⟩) ov.length c9] wr fun e' w' => (∃ g c, e' = .returned (.slice (some ⟨g, 0, none⟩) ov.length c) ∧ OwnP w' wr.heap.size (.slice (some ⟨g, 0, none⟩) ov.length c) ((ov.map (cellP fs cs e)).map lowPt)) ∧ Below wr.heap.size wr w') := HLP
        clear hml
        go_wp2_with fail
        refine HLP.out.mono ?_
        clear HLP
        rintro e1 w1 ⟨⟨g, c, rfl, ho1⟩, hb1⟩
        go_wp2
        go_ret
        exact ⟨⟨g, c, rfl, ho1.mono HB.out.1.size⟩, HB.out.1.trans (hb1.mono HB.out.1.size)⟩
      | false =>
        go_wp2
        go_ret
        exact ⟨⟨g9, c9, rfl, HP.out⟩, HB.out.1⟩
end Go.Proofs.YtgjcchafmcccjaaGreatDoor
