/- Layer 6 (schema): the document's SameTable and Same, for equal schemas. -/
import Derived.Test.YtbpmahchinblhaaDoorSPure2
import Derived.Deep.QuietTactic
import Derived.BigQuiet
import Derived.Laws.StructEq
namespace Go.Proofs.YtbpmahchinblhaaDoor
open Go.RowKit
set_option linter.unusedVariables false

/-- One table, where it can be read. -/
structure TabRd (w : World) (t : TV) : Prop where
  fs : CellsAt w t.fa (fcs t.fs)
  xs : CellsAt w t.xa (xcs t.xs)
  ov : ∀ x ∈ t.xs, CellsAt w x.va (ics x.x.ov)
  ok : TOk t
theorem TabRd.below {w w' : World} {t : TV} (h : TabRd w t) (hb : Below w.heap.size w w') : TabRd w' t :=
  ⟨h.fs.below hb, h.xs.below hb, fun x hx => (h.ov x hx).below hb, h.ok⟩
theorem TabsRd.tab {w : World} {ao : Option Addr} {ts : List TV} (h : TabsRd w ao ts) {t : TV} (ht : t ∈ ts) : TabRd w t := ⟨h.fs t ht, h.xs t ht, h.ov t ht, h.ok t ht⟩


theorem run_equal_field (t : ByteArray) (k : Int) (w : World) :
    (Op.equalIn 10000 40 (.agg #[.string t, .int .i64 k]) (.agg #[.string t, .int .i64 k])).run Tryd.prog w = .ok true w := by
  have u3 := Tryd.underlying3
  have a3 := Tryd.isAgg3
  have u9 := Tryd.underlying9
  have a9 := Tryd.isAgg9
  have hS : Tryd.prog.underlying 40 = some (.struct (Tryd.prog.fieldsOf 40)) := by kernel_rfl
  have hp : Tryd.prog.stoodInHeld 40 = false := by kernel_rfl
  rw [show (10000 : Nat) = 9999 + 1 from rfl, run_equalIn_agg w 9999 40 _ _ hS hp]
  simp only [Program.fieldsOf, Tryd.underlying40]
  go_simp
  try simp
theorem run_neq_field (t : ByteArray) (k : Int) (w : World) :
    (binOp .neq 40 (.agg #[.string t, .int .i64 k]) (.agg #[.string t, .int .i64 k])).run Tryd.prog w = .ok (.bool false) w := by
  rw [run_neq_struct, run_equal_field]; rfl
theorem guard_field : Tryd.prog.eqGuardType Tryd.prog.depth 40 = false := by kernel_rfl

/-- SameTable's own two tables lie in memory. -/
structure Two (w : World) (t u : TV) (W : World) : Prop where
  a0 : W.cell? ⟨w.heap.size, 0, none⟩ = some (.string t.n)
  a1 : W.cell? ⟨w.heap.size, 1, none⟩ = some t.fv
  a2 : W.cell? ⟨w.heap.size, 2, none⟩ = some t.xv
  b0 : W.cell? ⟨w.heap.size + 1, 0, none⟩ = some (.string u.n)
  b1 : W.cell? ⟨w.heap.size + 1, 1, none⟩ = some u.fv
  b2 : W.cell? ⟨w.heap.size + 1, 2, none⟩ = some u.xv
  t : TabRd W t
  u : TabRd W u
  below : Below w.heap.size w W
theorem Two.next {w : World} {t u : TV} {W W' : World} (h : Two w t u W) (hb : Below W.heap.size W W') : Two w t u W' := by
  have c : ∀ {a : Addr} {v : Value}, W.cell? a = some v → W'.cell? a = some v := fun {a v} e => by rw [hb.cell (by exact World.block_lt_of_cell? W _ e)]; exact e
  exact ⟨c h.a0, c h.a1, c h.a2, c h.b0, c h.b1, c h.b2, h.t.below hb, h.u.below hb, h.below.trans (hb.mono h.below.size)⟩

/-- The two indexes, laid down by SameTable. -/
structure IBox (w w' : World) (p q : Nat) (x y : XV) : Prop where
  below : Below w.heap.size w w'
  bp : w'.heap[p]? = some (.cells #[.string x.x.n, .slice x.va x.x.ov.length x.vc, .bool x.x.u, .bool x.x.l, .bool x.x.s] 38)
  bq : w'.heap[q]? = some (.cells #[.string y.x.n, .slice y.va y.x.ov.length y.vc, .bool y.x.u, .bool y.x.l, .bool y.x.s] 38)

set_option maxRecDepth 100000 in
set_option maxHeartbeats 4000000 in
theorem sameTable_calls (t u : TV) (w : World) (ht : TabRd w t) (hu : TabRd w u) (he : t.tb = u.tb) :
    Calls Tryd.prog 15 #[.agg #[.string t.n, t.fv, t.xv], .agg #[.string u.n, u.fv, u.xv]] w fun e w' => e = .returned (.bool true) ∧ Below w.heap.size w w' := by
  obtain ⟨n, fs, fa, fc, xs, xa, xc⟩ := t
  obtain ⟨n2, fs2, fb, fd, ys, xb, xd⟩ := u
  simp only [TV.tb, Tb.mk.injEq] at he
  obtain ⟨rfl, rfl, hxy⟩ := he
  have hlen : xs.length = ys.length := by have := congrArg List.length hxy; simpa using this
  have HW : Hid (Two w ⟨n, fs, fa, fc, xs, xa, xc⟩ ⟨n, fs, fb, fd, ys, xb, xd⟩ ((w.alloc (.cells #[.string n, .slice fa fs.length fc, .slice xa xs.length xc] 35)).alloc (.cells #[.string n, .slice fb fs.length fd, .slice xb ys.length xd] 35))) := by
    have hb1 := (Below.refl w.heap.size w).alloc (Nat.le_refl _) (.cells #[.string n, .slice fa fs.length fc, .slice xa xs.length xc] 35)
    have hb2 := hb1.alloc hb1.size (.cells #[.string n, .slice fb fs.length fd, .slice xb ys.length xd] 35)
    have o1 := old_blk (new_blk w (.cells #[.string n, .slice fa fs.length fc, .slice xa xs.length xc] 35)) (.cells #[.string n, .slice fb fs.length fd, .slice xb ys.length xd] 35)
    have o2 := new_blk (w.alloc (.cells #[.string n, .slice fa fs.length fc, .slice xa xs.length xc] 35)) (.cells #[.string n, .slice fb fs.length fd, .slice xb ys.length xd] 35)
    have e2 : (w.alloc (.cells #[.string n, .slice fa fs.length fc, .slice xa xs.length xc] 35)).heap.size = w.heap.size + 1 := by simp
    rw [e2] at o2
    exact ⟨cell_blk o1, cell_blk o1, cell_blk o1, cell_blk o2, cell_blk o2, cell_blk o2, ht.below hb2, hu.below hb2, hb2⟩
  have HX : Hid (xs.map (·.x) = ys.map (·.x)) := hxy
  have hfm := ht.ok.fmost
  have hxm := ht.ok.xmost
  dsimp only at hfm hxm
  clear ht hu hxy
  have q1 : (n.toList != n.toList) = false := by simp
  dsimp only [TV.fv, TV.xv]
  rw [hlen]
  rw [hlen] at HW
  have HL : Hid (xs.length = ys.length) := hlen
  rw [hlen] at hxm
  clear hlen
  go_enter Tryd.func15, Tryd.ntmps15
  go_wp2
  go_loopw [5, 36] (fun y i wr => ∃ k : Nat, k ≤ fs.length ∧ i = .int .i64 k ∧ Hid (Two w ⟨n, fs, fa, fc, xs, xa, xc⟩ ⟨n, fs, fb, fd, ys, xb, xd⟩ wr)) (fun _ i _ => fs.length - (intOf i).toNat)
  case atStart => exact ⟨0, Nat.zero_le _, rfl, HW⟩
  case round =>
    obtain ⟨k, hk, rfl, HW1⟩ := hrel
    clear HW
    have a1 := HW1.out.a1
    have b1 := HW1.out.b1
    by_cases hlt : k < fs.length
    · obtain ⟨ab, ao, h1, c0, c1⟩ := HW1.out.t.fs.fld k hlt
      obtain ⟨bb, bo, h2, d0, d1⟩ := HW1.out.u.fs.fld k hlt
      dsimp only [TV.fv] at h1 h2 c0 c1 d0 d1 a1 b1
      subst h1 h2
      have hrun := run_neq_field fs[k].n fs[k].k
      have hgd := guard_field
      go_wp2
      go_quiet (fail)
      clear hrun hgd
      have HW2 : Hid (Two w ⟨n, fs, some ⟨ab, ao, none⟩, fc, xs, xa, xc⟩ ⟨n, fs, some ⟨bb, bo, none⟩, fd, ys, xb, xd⟩ (wr.drewN nq)) := HW1.out.next (below_draws _ _)
      clear HW1 a1 b1 c0 c1 d0 d1
      go_wp2
      go_light
      exact ⟨⟨k + 1, by omega, by go_num, HW2⟩, by simp [intOf]; omega⟩
    · have a2 := HW1.out.a2
      have b2 := HW1.out.b2
      dsimp only [TV.xv] at a2 b2
      rw [HL.out] at a2
      clear a1 b1
      go_wp2
      go_loopw [6, 54] (fun y i wr => ∃ k : Nat, k ≤ ys.length ∧ i = .int .i64 k ∧ Hid (Two w ⟨n, fs, fa, fc, xs, xa, xc⟩ ⟨n, fs, fb, fd, ys, xb, xd⟩ wr)) (fun _ i _ => ys.length - (intOf i).toNat)
      case atStart => exact ⟨0, Nat.zero_le _, rfl, HW1⟩
      case round =>
        clear a2 b2 HW1 hlt hk
        obtain ⟨j, hj, rfl, HW1⟩ := hrel
        by_cases hlt : j < ys.length
        · have a2 := HW1.out.a2
          have b2 := HW1.out.b2
          have hlx : j < xs.length := by rw [HL.out]; exact hlt
          dsimp only [TV.xv] at a2 b2
          rw [HL.out] at a2
          obtain ⟨ab, ao, h1, c0, c1, c2, c3, c4⟩ := HW1.out.t.xs.idx j hlx
          obtain ⟨bb, bo, h2, d0, d1, d2, d3, d4⟩ := HW1.out.u.xs.idx j hlt
          dsimp only at h1 h2 c0 c1 c2 c3 c4 d0 d1 d2 d3 d4
          subst h1 h2
          obtain ⟨X, hX⟩ : ∃ X, X = xs[j] := ⟨_, rfl⟩
          obtain ⟨Y, hY⟩ : ∃ Y, Y = ys[j] := ⟨_, rfl⟩
          rw [← hX] at c0 c1 c2 c3 c4
          rw [← hY] at d0 d1 d2 d3 d4
          have hxy : X.x = Y.x := by
            have := congrArg (fun l => l[j]?) HX.out
            simp only [List.getElem?_map, List.getElem?_eq_getElem hlx, List.getElem?_eq_getElem hlt, Option.map_some, Option.some.injEq] at this
            rw [hX, hY]; exact this
          have HO : Hid (CellsAt wr X.va (ics X.x.ov) ∧ CellsAt wr Y.va (ics Y.x.ov)) := ⟨by rw [hX]; exact HW1.out.t.ov _ (List.getElem_mem hlx), by rw [hY]; exact HW1.out.u.ov _ (List.getElem_mem hlt)⟩
          have hom : X.x.ov.length ≤ 4 := by rw [hX]; exact (HW1.out.t.ok.xok _ (List.getElem_mem hlx)).most
          clear hX hY
          obtain ⟨x, va, vc⟩ := X
          obtain ⟨y, vb, vd⟩ := Y
          dsimp only at hxy
          subst hxy
          dsimp only at c0 c1 c2 c3 c4 d0 d1 d2 d3 d4 HO hom
          go_wp2
          go_cut [7, 8] from 57 to 66 (fun s7 s8 wx => ∃ p q : Nat, s7 = .pointer (some ⟨p, 0, none⟩) ∧ s8 = .pointer (some ⟨q, 0, none⟩) ∧ Hid (IBox wr wx p q ⟨x, va, vc⟩ ⟨x, vb, vd⟩))
          case first =>
            have n1 := World.new_ne wr _ a2
            have n2 := World.new_ne wr _ b2
            have n3 := World.new_ne wr _ c0
            have n4 := World.new_ne wr _ d0
            go_region_held3 (fun W => W.cell? ⟨w.heap.size, 2, none⟩ = some (.slice (some ⟨ab, ao, none⟩) ys.length xc) ∧ W.cell? ⟨w.heap.size + 1, 2, none⟩ = some (.slice (some ⟨bb, bo, none⟩) ys.length xd)
               ∧ W.cell? ⟨ab, ao + j * 5, none⟩ = some (.string x.n) ∧ W.cell? ⟨ab, ao + j * 5 + 1, none⟩ = some (.slice va x.ov.length vc) ∧ W.cell? ⟨ab, ao + j * 5 + 2, none⟩ = some (.bool x.u) ∧ W.cell? ⟨ab, ao + j * 5 + 3, none⟩ = some (.bool x.l) ∧ W.cell? ⟨ab, ao + j * 5 + 4, none⟩ = some (.bool x.s)
               ∧ W.cell? ⟨bb, bo + j * 5, none⟩ = some (.string x.n) ∧ W.cell? ⟨bb, bo + j * 5 + 1, none⟩ = some (.slice vb x.ov.length vd) ∧ W.cell? ⟨bb, bo + j * 5 + 2, none⟩ = some (.bool x.u) ∧ W.cell? ⟨bb, bo + j * 5 + 3, none⟩ = some (.bool x.l) ∧ W.cell? ⟨bb, bo + j * 5 + 4, none⟩ = some (.bool x.s))
              (go_keep) (fail)
            · go_wp2
              go_meet
              case rel => exact ⟨wr.heap.size, wr.heap.size + 1, rfl, rfl, ⟨(((Below.refl _ wr).alloc (Nat.le_refl _) _).alloc (by simp) _).drew, old_blk (new_blk wr _) _, by have := new_blk (wr.alloc (.cells #[.string x.n, .slice va x.ov.length vc, .bool x.u, .bool x.l, .bool x.s] 38)) (.cells #[.string x.n, .slice vb x.ov.length vd, .bool x.u, .bool x.l, .bool x.s] 38); rwa [show (wr.alloc (.cells #[.string x.n, .slice va x.ov.length vc, .bool x.u, .bool x.l, .bool x.s] 38)).heap.size = wr.heap.size + 1 by simp] at this⟩⟩
            · go_wp2
              go_meet
              case rel => exact ⟨wr.heap.size + 1, wr.heap.size, rfl, rfl, ⟨(((Below.refl _ wr).alloc (Nat.le_refl _) _).alloc (by simp) _).drew, by have := new_blk (wr.alloc (.cells #[.string x.n, .slice vb x.ov.length vd, .bool x.u, .bool x.l, .bool x.s] 38)) (.cells #[.string x.n, .slice va x.ov.length vc, .bool x.u, .bool x.l, .bool x.s] 38); rwa [show (wr.alloc (.cells #[.string x.n, .slice vb x.ov.length vd, .bool x.u, .bool x.l, .bool x.s] 38)).heap.size = wr.heap.size + 1 by simp] at this, old_blk (new_blk wr _) _⟩⟩
          case rest =>
            obtain ⟨p, q, rfl, rfl, HI⟩ := hcut
            have HW2 : Hid (Two w ⟨n, fs, fa, fc, xs, some ⟨ab, ao, none⟩, xc⟩ ⟨n, fs, fb, fd, ys, some ⟨bb, bo, none⟩, xd⟩ wc) := HW1.out.next HI.out.below
            have HO2 : Hid (CellsAt wc va (ics x.ov) ∧ CellsAt wc vb (ics x.ov)) := ⟨HO.out.1.below HI.out.below, HO.out.2.below HI.out.below⟩
            have e0 : wc.cell? ⟨p, 0, none⟩ = some (.string x.n) := by rw [cell_blk HI.out.bp]; rfl
            have e1 : wc.cell? ⟨p, 1, none⟩ = some (.slice va x.ov.length vc) := by rw [cell_blk HI.out.bp]; rfl
            have e2 : wc.cell? ⟨p, 2, none⟩ = some (.bool x.u) := by rw [cell_blk HI.out.bp]; rfl
            have e3 : wc.cell? ⟨p, 3, none⟩ = some (.bool x.l) := by rw [cell_blk HI.out.bp]; rfl
            have e4 : wc.cell? ⟨p, 4, none⟩ = some (.bool x.s) := by rw [cell_blk HI.out.bp]; rfl
            have f0 : wc.cell? ⟨q, 0, none⟩ = some (.string x.n) := by rw [cell_blk HI.out.bq]; rfl
            have f1 : wc.cell? ⟨q, 1, none⟩ = some (.slice vb x.ov.length vd) := by rw [cell_blk HI.out.bq]; rfl
            have f2 : wc.cell? ⟨q, 2, none⟩ = some (.bool x.u) := by rw [cell_blk HI.out.bq]; rfl
            have f3 : wc.cell? ⟨q, 3, none⟩ = some (.bool x.l) := by rw [cell_blk HI.out.bq]; rfl
            have f4 : wc.cell? ⟨q, 4, none⟩ = some (.bool x.s) := by rw [cell_blk HI.out.bq]; rfl
            clear HW1 HI HO a2 b2 c0 c1 c2 c3 c4 d0 d1 d2 d3 d4
            have q2 : (x.n.toList != x.n.toList) = false := by simp
            go_wp2
            go_loopw [9, 105] (fun y i wr => ∃ m : Nat, m ≤ x.ov.length ∧ i = .int .i64 m ∧ Hid (Below wc.heap.size wc wr)) (fun _ i _ => x.ov.length - (intOf i).toNat)
            case atStart => exact ⟨0, Nat.zero_le _, rfl, Below.refl _ _⟩
            case round =>
              obtain ⟨m, hm, rfl, HB⟩ := hrel
              have g1 : wr.cell? ⟨p, 1, none⟩ = some (.slice va x.ov.length vc) := by rw [HB.out.cell (by exact World.block_lt_of_cell? wc _ e1)]; exact e1
              have g2 : wr.cell? ⟨q, 1, none⟩ = some (.slice vb x.ov.length vd) := by rw [HB.out.cell (by exact World.block_lt_of_cell? wc _ f1)]; exact f1
              clear e0 e1 e2 e3 e4 f0 f1 f2 f3 f4
              by_cases hlm : m < x.ov.length
              · obtain ⟨pb, po, h1, m0⟩ := (HO2.out.1.below HB.out).num m hlm
                obtain ⟨qb, qo, h2, m1⟩ := (HO2.out.2.below HB.out).num m hlm
                subst h1 h2
                have q3 : (x.ov[m] != x.ov[m]) = false := by simp
                go_wp2
                go_quiet (fail)
                have HB2 : Hid (Below wc.heap.size wc (wr.drewN nq)) := HB.out.trans ((below_draws wr nq).mono HB.out.size)
                clear g1 g2 m0 m1 HB
                go_wp2
                go_light
                exact ⟨⟨m + 1, by omega, by go_num, HB2⟩, by simp [intOf]; omega⟩
              · have HW3 : Hid (Two w ⟨n, fs, fa, fc, xs, some ⟨ab, ao, none⟩, xc⟩ ⟨n, fs, fb, fd, ys, some ⟨bb, bo, none⟩, xd⟩ wr) := HW2.out.next HB.out
                go_wp2
                go_roundw
                case rel => exact ⟨j + 1, by omega, by go_num, HW3⟩
                case measure => simp [intOf]; omega
        · go_wp2
          go_ret
          exact ⟨rfl, HW1.out.below⟩
end Go.Proofs.YtbpmahchinblhaaDoor
