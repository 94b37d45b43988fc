/- Layer 7 (rows): elementsOf, usesOwn, fitCells. -/
import Derived.Test.YtjbnbpclelbohaaRwOwn
import Derived.Test.YtjbnbpclelbohaaSRParse
namespace Go.Proofs.Ytjbnbpclelbohaa
open Go.RowKit
set_option linter.unusedVariables false
attribute [local go_sem] Oper.semAt_some

/-- The place of the index's list field. -/
def listP (fs : List Fd) (ov : List Int) : Option Int := ov.find? fun p => decide ((fs.getD p.toNat noF).k = 3)
def elemsOf (fs : List Fd) (ov : List Int) (cs : List CV) : List ByteArray := match listP fs ov with | some p => (cs.getD p.toNat noC).l | none => [⟨#[]⟩]
theorem elems_hit {fs : List Fd} {ov : List Int} {cs : List CV} {k p : Nat} (hk : k < ov.length) (hp : ov[k] = (p : Int)) (h1 : p < fs.length) (h2 : p < cs.length) (h3 : fs[p].k = 3) (hn : noneTo (fun p => decide ((fs.getD p.toNat noF).k = 3)) ov k) : elemsOf fs ov cs = cs[p].l := by
  have : listP fs ov = some (p : Int) := by
    unfold listP
    rw [List.find?_eq_some_iff_getElem]
    refine ⟨?_, k, hk, hp, fun j hj => ?_⟩
    · rw [show ((p : Int).toNat) = p from rfl, List.getD_eq_getElem?_getD, List.getElem?_eq_getElem h1]
      simpa using h3
    · have h := hn j (by omega) hj
      simpa using h
  unfold elemsOf
  rw [this]
  dsimp only
  rw [show ((p : Int).toNat) = p from rfl, List.getD_eq_getElem?_getD, List.getElem?_eq_getElem h2]
  rfl
theorem elems_none {fs : List Fd} {ov : List Int} {cs : List CV} {k : Nat} (hk : ov.length ≤ k) (hn : noneTo (fun p => decide ((fs.getD p.toNat noF).k = 3)) ov k) : elemsOf fs ov cs = [⟨#[]⟩] := by
  have : listP fs ov = none := by
    unfold listP
    rw [List.find?_eq_none]
    intro x hx
    obtain ⟨j, hj, rfl⟩ := List.getElem_of_mem hx
    have h := hn j hj (by omega)
    simpa using h
  unfold elemsOf
  rw [this]

set_option maxRecDepth 100000 in
set_option maxHeartbeats 1000000 in
theorem elementsOf_calls (fa : Option Addr) (fc : Nat) (fs : List Fd) (x : XV) (ca : Option Addr) (cc : Nat) (cs : List CV) (w w0 : World) (hok : OvOk x fs cs) (hf : CellsAt w fa (fcs fs)) (ho : CellsAt w x.va (ics x.x.ov)) (hr : RowAt w ca cs) (hr0 : RowAt w0 ca cs) :
    Calls Try.prog 52 #[.slice fa fs.length fc, .agg #[.string x.x.n, .slice x.va x.x.ov.length x.vc, .bool x.x.u, .bool x.x.l, .bool x.x.s], .slice ca cs.length cc] w fun e' w' => (∃ ao c, e' = .returned (.slice ao (elemsOf fs x.x.ov cs).length c) ∧ CellsAt w' ao ((elemsOf fs x.x.ov cs).map Value.string) ∧ (∀ g off, ao = some ⟨g, off, none⟩ → 0 < (elemsOf fs x.x.ov cs).length → g < w0.heap.size ∨ ∃ q, w'.heap[g]? = some (.cells q 9))) ∧ Below w.heap.size w w' := by
  have HOK : Hid (OvOk x fs cs) := hok
  have HF : Hid (CellsAt w fa (fcs fs)) := hf
  have HO : Hid (CellsAt w x.va (ics x.x.ov)) := ho
  have HR : Hid (RowAt w ca cs) := hr
  have HR0 : Hid (RowAt w0 ca cs) := hr0
  have hfm := hok.fmost
  have hom := hok.most
  clear hok hf ho hr hr0
  obtain ⟨⟨xn, ov, u, l, s⟩, va, vc⟩ := x
  dsimp only at *
  go_enter Try.func52, Try.ntmps52
  go_wp2
  go_loopw [8, 12] (fun a8 i wr => ∃ k : Nat, k ≤ ov.length ∧ i = .int .i64 k ∧ Hid (noneTo (fun p => decide ((fs.getD p.toNat noF).k = 3)) ov k) ∧ Hid (Below w.heap.size w wr)) (fun _ i _ => ov.length - (intOf i).toNat)
  case atStart => exact ⟨0, Nat.zero_le _, rfl, noneTo.zero _ _, (Below.refl _ _).alloc (Nat.le_refl _) _⟩
  case round =>
    obtain ⟨k, hk, rfl, HN, HB⟩ := hrel
    by_cases hlt : k < ov.length
    · obtain ⟨ob, oo, rfl, c0⟩ := (HO.out.below HB.out).num k hlt
      have hpl := HOK.out.place ov[k] (List.getElem_mem hlt)
      obtain ⟨p, hp⟩ : ∃ p : Nat, ov[k] = (p : Int) := ⟨ov[k].toNat, by omega⟩
      have hpf : p < fs.length := by omega
      have hpc : p < cs.length := by have := HOK.out.same; omega
      have HHit : Hid (fs[p].k = 3 → elemsOf fs ov cs = cs[p].l) := fun h3 => elems_hit (fs := fs) (cs := cs) hlt hp hpf hpc h3 HN.out
      have HNX : Hid (¬ fs[p].k = 3 → noneTo (fun p => decide ((fs.getD p.toNat noF).k = 3)) ov (k + 1)) := fun h3 => HN.out.succ hlt (by
        rw [hp, show ((p : Int).toNat) = p from rfl, List.getD_eq_getElem?_getD, List.getElem?_eq_getElem hpf]
        simpa using h3)
      rw [hp] at c0
      clear hpl hp
      have HKA : Hid (Calls Try.prog 60 #[.slice fa fs.length fc, .int .i64 p] wr fun e w' => e = .returned (.int .i64 fs[p].k) ∧ w' = wr) := kindAt_calls fa fc fs p wr hfm hpf (HF.out.below HB.out)
      obtain ⟨cb, co, rfl, d0, d1, d2⟩ := ((HR.out.below HB.out).row).cel p hpc
      have HL : Hid (CellsAt wr cs[p].la (cs[p].l.map Value.string)) := (HR.out.below HB.out).lst _ (List.getElem_mem hpc)
      generalize fs[p].k = kk at *
      by_cases h3 : kk = 3
      · have HE : Hid (elemsOf fs ov cs = cs[p].l) := HHit.out h3
        subst h3
        clear HHit HNX
        go_wp2_with fail
        refine HKA.out.mono ?_
        rintro e1 w1 ⟨rfl, hw1⟩
        rw [hw1]
        clear hw1 HKA
        go_wp2
        go_ret
        rw [HE.out]
        refine ⟨⟨_, _, rfl, HL.out, fun g off hg hn => .inl ?_⟩, HB.out⟩
        obtain ⟨b1, o1, e1, c1⟩ := (HR0.out.lst _ (List.getElem_mem hpc)).str 0 hn
        rw [hg] at e1
        simp only [Option.some.injEq, Addr.mk.injEq] at e1
        obtain ⟨rfl, _⟩ := e1
        exact World.block_lt_of_cell? w0 _ c1
      · have HN2 : Hid (noneTo (fun p => decide ((fs.getD p.toNat noF).k = 3)) ov (k + 1)) := HNX.out h3
        have q3 : (kk == 3) = false := by simpa using h3
        clear HHit HNX h3
        go_wp2_with fail
        refine HKA.out.mono ?_
        rintro e1 w1 ⟨rfl, hw1⟩
        rw [hw1]
        clear hw1 HKA
        go_wp2
        go_roundw
        case rel => exact ⟨k + 1, by omega, by go_num, HN2, HB⟩
        case measure => simp [intOf]; omega
    · have HE : Hid (elemsOf fs ov cs = [⟨#[]⟩]) := elems_none (by omega) HN.out
      go_wp2
      go_ret
      rw [HE.out]
      refine ⟨⟨_, _, rfl, fun _ => ⟨wr.heap.size, 0, rfl, fun j u hj => ?_⟩, fun g off hg _ => .inr ?_⟩, HB.out.alloc HB.out.size _⟩
      · rw [Nat.zero_add, cell_blk (new_blk _ _)]
        simpa using hj
      · simp only [Option.some.injEq, Addr.mk.injEq] at hg
        obtain ⟨rfl, _⟩ := hg
        exact ⟨_, new_blk _ _⟩

/-- Is nothing in the cell but in its kind's part? -/
def usesB (k : Int) (c : CV) : Bool := (k == 1 || c.t.toList.isEmpty) && ((k == 2 || c.n == 0) && (k == 3 || decide (c.l.length = 0)))
set_option maxRecDepth 100000 in
set_option maxHeartbeats 1000000 in
theorem usesOwn_calls (k : Int) (c : CV) (w : World) (hk : k = 1 ∨ k = 2 ∨ k = 3) (hl : c.l.length ≤ 8796093022208) :
    Calls Try.prog 35 #[.int .i64 k, .agg #[.string c.t, .int .u64 c.n, .slice c.la c.l.length c.lc]] w fun e w' => e = .returned (.bool (usesB k c)) ∧ Below w.heap.size w w' := by
  obtain ⟨t, n, l, la, lc⟩ := c
  have HU : Hid (usesB k ⟨t, n, l, la, lc⟩ = ((k == 1 || t.toList.isEmpty) && ((k == 2 || n == 0) && (k == 3 || decide (l.length = 0))))) := rfl
  dsimp only at *
  have hz := zero_beq l.length
  generalize l.length = ll at *
  have hem : (t.toList == []) = t.toList.isEmpty := by cases t.toList <;> rfl
  cases ht : t.toList.isEmpty <;> cases hn : (n == 0) <;> cases hq : decide (ll = 0) <;> rcases hk with rfl | rfl | rfl
  all_goals
    rw [ht, hn, hq] at HU
    rw [hq] at hz
    rw [ht] at hem
    have HB : Hid (Below w.heap.size w (w.alloc (.cells #[.string t, .int .u64 n, .slice la ll lc] 55))) := (Below.refl _ _).alloc (Nat.le_refl _) _
    clear hq
    go_enter Try.func35, Try.ntmps35
    go_wp2
    go_ret
    rw [HU.out]
    exact ⟨rfl, HB.out⟩
end Go.Proofs.Ytjbnbpclelbohaa
