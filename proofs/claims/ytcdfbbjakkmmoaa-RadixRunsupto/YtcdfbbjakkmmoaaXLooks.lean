/- Layer 3 (radix): the law's looks. -/
import Derived.Test.YtcdfbbjakkmmoaaXLkL
namespace Go.Proofs.Ytcdfbbjakkmmoaa
open Go.RowKit Go.Shelf
open Go.Sort (grow)
set_option linter.unusedVariables false

theorem max_uniq {p : Nat → Prop} {N n m : Nat} (hn : n ≤ N) (hm : m ≤ N) (h1 : p n) (h2 : p m) (g1 : ∀ q, n < q → q ≤ N → ¬ p q) (g2 : ∀ q, m < q → q ≤ N → ¬ p q) : n = m := by
  rcases Nat.lt_or_ge n m with hc | hc
  · exact absurd h2 (g1 m hc hm)
  · rcases Nat.lt_or_ge m n with hc2 | hc2
    · exact absurd h1 (g2 n hc2 hn)
    · omega
/-- What both Longests answer. -/
theorem longest_pair {w₀ w : World} {tb : Nat} {T : Tr} {ne : Int} {n : Nat} {es : List En} {d : Dv} (h : GrP w₀ w tb T ne n es d) {k : ByteArray} (hk : k.size ≤ 140737488351296) (hle : es.length ≤ 5864062014640) :
    ∃ (r : Int) (x : ByteArray) (v : Int) (ok : Bool), (∀ W, Below w.heap.size w W → Calls Try.prog 24 #[.pointer (some ⟨tb, 0, none⟩), .string k] W fun e w' => e = .returned (.tuple #[.string x, .int .i64 v, .bool ok]) ∧ Below W.heap.size W w') ∧
      (∀ W, Below w.heap.size w W → Calls Try.prog 42 #[.agg (d.cells es.length (pathsOf es).length), .string k] W fun e w' => e = .returned (.int .i64 r) ∧ Below W.heap.size W w') ∧
      ((r = -1 ∧ x = ⟨#[]⟩ ∧ v = 0 ∧ ok = false) ∨ ∃ i : Nat, ∃ hi : i < es.length, r = (i : Int) ∧ x = es[i].1 ∧ v = es[i].2 ∧ ok = true) := by
  rcases greatest_of (fun m => k.extract 0 m ∈ keysOf es) k.size with ⟨m, hm, hin, hno⟩ | hno
  · obtain ⟨hp, he⟩ := (place_mem h.held.sorted.keys).2 hin
    have hpl : place (keysOf es) (k.extract 0 m) < es.length := by rw [keysOf_len] at hp; exact hp
    have hes : es[place (keysOf es) (k.extract 0 m)].1 = k.extract 0 m := by
      have : (keysOf es)[place (keysOf es) (k.extract 0 m)] = es[place (keysOf es) (k.extract 0 m)].1 := by simp [keysOf]
      rw [← this]; exact he
    have hov := oldV_in h.held.sorted (List.getElem_mem hpl)
    rw [hes] at hov
    refine ⟨(place (keysOf es) (k.extract 0 m) : Int), k.extract 0 m, oldV es (k.extract 0 m), true, fun W hW => longestH_some tb T ne n es w₀ W (h.keep hW).held k hk m hm hin hno, fun W hW => longestD_calls d es (pathsOf es) k W (h.keep hW).doc hk (by omega) _ (fun p hp1 hp2 hp3 => ?_) (fun hq => absurd hin (hq m hm)), .inr ⟨_, hpl, rfl, hes.symm, hov, rfl⟩⟩
    rw [max_uniq (p := fun m => k.extract 0 m ∈ keysOf es) hm hp1 hin hp3 hno hp2]
  · exact ⟨-1, ⟨#[]⟩, 0, false, fun W hW => longestH_none tb T ne n es w₀ W (h.keep hW).held k hk hno, fun W hW => longestD_calls d es (pathsOf es) k W (h.keep hW).doc hk (by omega) _ (fun p hp1 hp2 hp3 => absurd hp3 (hno p hp1)) (fun _ => rfl), .inl ⟨rfl, rfl, rfl, rfl⟩⟩
theorem reach_pair {w₀ w : World} {tb : Nat} {T : Tr} {ne : Int} {n : Nat} {es : List En} {d : Dv} (h : GrP w₀ w tb T ne n es d) {k : ByteArray} (hk : k.size ≤ 140737488351296) (hle : es.length ≤ 5864062014640) :
    ∃ (r : Nat) (hr : r < (pathsOf es).length), (∀ W, Below w.heap.size w W → Calls Try.prog 25 #[.pointer (some ⟨tb, 0, none⟩), .string k] W fun e w' => e = .returned (.string (pathsOf es)[r]) ∧ Below W.heap.size W w') ∧
      (∀ W, Below w.heap.size w W → Calls Try.prog 43 #[.agg (d.cells es.length (pathsOf es).length), .string k] W fun e w' => e = .returned (.int .i64 (r : Int)) ∧ Below W.heap.size W w') := by
  obtain ⟨init, c, hA⟩ := along_split (k := k.data.toList) h.held.good.wf
  obtain ⟨g1, g2⟩ := reach_last h.held h.canon hA
  have hR : ∀ W, Below w.heap.size w W → _ := fun W hW => reachT_calls tb T ne n es w₀ W (h.keep hW).held k hk init c hA
  have hpe : pths (n + 1) T = pathsOf es := pths_paths h.held.good.wf h.canon h.held.good.root h.held.good.dep h.held.has h.held.sorted
  have hsk : SortedK (pathsOf es) := pathsN_sorted _ _
  rcases greatest_of (fun m => 0 < m ∧ k.extract 0 m ∈ pathsOf es) k.size with ⟨m, hm, ⟨hm0, hin⟩, hno⟩ | hno
  · have hno' : ∀ q, m < q → q ≤ k.size → ¬ k.extract 0 q ∈ pathsOf es := fun q h1 h2 h3 => hno q h1 h2 ⟨by omega, h3⟩
    obtain ⟨hp, he⟩ := (place_mem hsk).2 hin
    refine ⟨place (pathsOf es) (k.extract 0 m), hp, fun W hW => ?_, fun W hW => reachD_calls d es (pathsOf es) k W (h.keep hW).doc hk (by omega) _ (fun p hp1 hp0 hp2 hp3 => ?_) (fun hq => absurd hin (hq m hm hm0))⟩
    · have := hR W hW
      rw [g1 m hm hm0 hin hno'] at this
      rw [he]; exact this
    · rw [max_uniq (p := fun m => k.extract 0 m ∈ pathsOf es) hm hp1 hin hp3 hno' hp2]
  · have hno' : ∀ q, q ≤ k.size → 0 < q → ¬ k.extract 0 q ∈ pathsOf es := fun q h1 h2 h3 => hno q h1 ⟨h2, h3⟩
    have h0 : 0 < (pathsOf es).length := by rw [← hpe]; exact pths_len h.held.good.dep
    have hp0 : (pathsOf es)[0] = ⟨#[]⟩ := by
      have hh : (pathsOf es)[0]? = some T.p := by rw [← hpe]; rfl
      rw [List.getElem?_eq_getElem h0] at hh
      rw [Option.some.inj hh, h.held.good.root]
    refine ⟨0, h0, fun W hW => ?_, fun W hW => reachD_calls d es (pathsOf es) k W (h.keep hW).doc hk (by omega) _ (fun p hp1 hp0 hp2 hp3 => absurd hp3 (hno' p hp1 hp0)) (fun _ => rfl)⟩
    have := hR W hW
    rw [g2 hno'] at this
    rw [hp0]; exact this

set_option maxRecDepth 100000 in
set_option maxHeartbeats 1600000 in
theorem looks_calls (tb : Nat) (T : Tr) (ne : Int) (n : Nat) (es : List En) (d : Dv) (w₀ w : World) (h : GrP w₀ w tb T ne n es d) (hle : es.length ≤ 5864062014640) (k : ByteArray) (hk : k.size ≤ 140737488351296) :
    Calls Try.prog 20 #[.pointer (some ⟨tb, 0, none⟩), .agg (d.cells es.length (pathsOf es).length), .string k] w fun e w' => e = .returned (.bool true) ∧ Below w.heap.size w w' := by
  obtain ⟨r, x, v, ok, L1, L2, L3⟩ := longest_pair h hk hle
  obtain ⟨rr, hrr, R1, R2⟩ := reach_pair h hk hle
  have GD : ∀ W, Below w.heap.size w W → _ := fun W hW => getD_calls d es (pathsOf es) k W (h.keep hW).doc hk (by omega)
  have GH : ∀ W, Below w.heap.size w W → _ := fun W hW => getH_calls tb T ne n es w₀ W (h.keep hW).held k hk
  obtain ⟨ov, hov⟩ : ∃ o, o = oldV es k := ⟨_, rfl⟩
  obtain ⟨bk, hbk⟩ : ∃ b, b = decide (k ∈ keysOf es) := ⟨_, rfl⟩
  rw [← hov, ← hbk] at GD GH
  have hKC : 0 < es.length → _ := fun hn => h.doc.keysC hn
  obtain ⟨pb, po, hpa, hpc⟩ := h.doc.p.str h.doc.pp rr hrr
  obtain ⟨px, hpx⟩ : ∃ x, x = (pathsOf es)[rr] := ⟨_, rfl⟩
  rw [← hpx] at hpc R1
  obtain ⟨q, hq⟩ : ∃ q, q = (pathsOf es).length := ⟨_, rfl⟩
  rw [← hq] at L2 R2 GD hrr ⊢
  obtain ⟨w1, HW1⟩ : ∃ w1, Hid (w1 = w.alloc (.cells (d.cells es.length q) 28)) := ⟨_, rfl⟩
  have HI1 : Hid (MbI w d es.length q w1) := by rw [HW1.out]; exact mbI_start w d es.length q
  unfold Dv.cells at HW1 L2 R2 GD
  rw [hpa] at HW1 L2 R2 GD
  unfold Dv.cells
  rw [hpa]
  have HMK : Hid (∀ W, MbI w d es.length q W → W.cell? ⟨w.heap.size, 0, none⟩ = some (.slice d.k.ao es.length d.k.cap) ∧ W.cell? ⟨w.heap.size, 1, none⟩ = some (.slice d.v.ao es.length d.v.cap) ∧ W.cell? ⟨w.heap.size, 2, none⟩ = some (.slice d.l.ao es.length d.l.cap) ∧ W.cell? ⟨w.heap.size, 3, none⟩ = some (.slice (some ⟨pb, po, none⟩) q d.p.cap) ∧ W.cell? ⟨w.heap.size, 4, none⟩ = some (.slice d.m.ao q d.m.cap) ∧ W.cell? ⟨pb, po + rr, none⟩ = some (.string px)) := fun W g => by
    refine ⟨by rw [cell_of_blk g.mb]; rfl, by rw [cell_of_blk g.mb]; rfl, by rw [cell_of_blk g.mb]; rfl, by rw [cell_of_blk g.mb, ← hpa]; rfl, by rw [cell_of_blk g.mb]; rfl, by rw [g.below.cell (World.block_lt_of_cell? w _ hpc)]; exact hpc⟩
  have HL1 : Hid _ := L1
  have HL2 : Hid _ := L2
  have HR1 : Hid _ := R1
  have HR2 : Hid _ := R2
  have HGD : Hid _ := GD
  have HGH : Hid _ := GH
  have HKC : Hid (0 < es.length → ∃ kb ko vb vo, d.k.ao = some ⟨kb, ko, none⟩ ∧ d.v.ao = some ⟨vb, vo, none⟩ ∧ ∀ j (hj : j < es.length), w.cell? ⟨kb, ko + j, none⟩ = some (.string es[j].1) ∧ w.cell? ⟨vb, vo + j, none⟩ = some (.int .i64 es[j].2)) := hKC
  have hnot : ∀ (x : Bool) (w : World), (Op.unary .not (.bool x)).run Try.prog w = .ok (.bool (!x)) w := fun _ _ => rfl
  have i9 : (0 : Int) ≤ (rr : Int) ∧ (rr : Int) < (q : Int) := by omega
  clear L1 L2 R1 R2 GD GH hov hbk hKC hpa hpc hpx hq h
  have G1 := HGD.out w1 HI1.out.below
  obtain ⟨k0, k1, k2, k3, k4, k5⟩ := HMK.out w1 HI1.out
  go_enter Try.func20, Try.ntmps20
  go_wp2_with fail
  rw [← HW1.out]
  clear HW1
  refine G1.mono ?_
  clear G1
  rintro e w2 ⟨rfl, hb2⟩
  have HI2 : Hid (MbI w d es.length q w2) := HI1.out.keep hb2
  have G2 := HGH.out w2 HI2.out.below
  clear hb2 HI1 HGD HGH k0 k1 k2 k3 k4 k5
  go_wp2_with fail
  refine G2.mono ?_
  clear G2
  rintro e w3 ⟨rfl, hb3⟩
  have HI3 : Hid (MbI w d es.length q w3) := HI2.out.keep hb3
  have G3 := HL1.out w3 HI3.out.below
  clear hb3 HI2 HL1
  go_wp2_with fail
  refine G3.mono ?_
  clear G3
  rintro e w4 ⟨rfl, hb4⟩
  have HI4 : Hid (MbI w d es.length q w4) := HI3.out.keep hb4
  have G4 := HL2.out w4 HI4.out.below
  obtain ⟨k0, k1, k2, k3, k4, k5⟩ := HMK.out w4 HI4.out
  clear hb4 HI3 HL2
  go_wp2_with fail
  refine G4.mono ?_
  clear G4
  rintro e w5 ⟨rfl, hb5⟩
  have HI5 : Hid (MbI w d es.length q w5) := HI4.out.keep hb5
  clear hb5 HI4 k0 k1 k2 k3 k4 k5
  obtain ⟨k0, k1, k2, k3, k4, k5⟩ := HMK.out w5 HI5.out
  have j0 := cell_regrown k0
  have j1 := cell_regrown k1
  have j2 := cell_regrown k2
  have j3 := cell_regrown k3
  have j4 := cell_regrown k4
  have j5 := cell_regrown k5
  have cR := fun dd os => Calls.regrown_of (HR1.out (grow (redrawn w5 dd) os) (HI5.out.below.trans ((below_regrown w5 dd os).mono HI5.out.below.size)))
  have cS := fun dd os => Calls.regrown_of (HR2.out (grow (redrawn w5 dd) os) (HI5.out.below.trans ((below_regrown w5 dd os).mono HI5.out.below.size)))
  rcases L3 with ⟨rfl, rfl, rfl, rfl⟩ | ⟨i, hi, rfl, rfl, rfl, rfl⟩
  · clear HKC
    go_wp2_with fail
    refine wp_region_quiet_below (by kernel_rfl) (by kernel_rfl) ?_
    repeat (quiet_step (first | exact cR _ _ | exact cS _ _))
    refine wpQuiet_nil ?_
    intro w9 hw'
    obtain ⟨⟨dq, osq⟩, hw9⟩ := hw'
    have HB9 : Hid (Below w.heap.size w w9) := HI5.out.below.trans ((by rw [hw9]; exact below_regrown w5 dq osq : Below w5.heap.size w5 w9).mono HI5.out.below.size)
    clear hw9
    go_wp2_with fail
    go_ret
    exact ⟨rfl, HB9.out⟩
  · obtain ⟨kb, ko, vb, vo, hka, hva, hcs⟩ := HKC.out (by omega)
    obtain ⟨hc0, hc1⟩ := hcs i hi
    have c0 : w5.cell? ⟨kb, ko + i, none⟩ = some (.string es[i].1) := by rw [HI5.out.below.cell (World.block_lt_of_cell? w _ hc0)]; exact hc0
    have c1 : w5.cell? ⟨vb, vo + i, none⟩ = some (.int .i64 es[i].2) := by rw [HI5.out.below.cell (World.block_lt_of_cell? w _ hc1)]; exact hc1
    have i1 : (0 : Int) ≤ (i : Int) ∧ (i : Int) < (es.length : Int) := by omega
    obtain ⟨e, he⟩ : ∃ e, e = es[i] := ⟨_, rfl⟩
    rw [← he] at c0 c1 ⊢
    obtain ⟨x, y⟩ := e
    dsimp only at c0 c1 ⊢
    rw [hka] at k0
    rw [hva] at k1
    clear j0 j1
    have j0 := cell_regrown k0
    have j1 := cell_regrown k1
    rw [hka, hva] at cS
    clear HKC hcs hc0 hc1 he hka hva
    go_wp2_with fail
    refine wp_region_quiet_below (by kernel_rfl) (by kernel_rfl) ?_
    repeat (quiet_step (first | exact cR _ _ | exact cS _ _))
    refine wpQuiet_nil ?_
    intro w9 hw'
    obtain ⟨⟨dq, osq⟩, hw9⟩ := hw'
    have HB9 : Hid (Below w.heap.size w w9) := HI5.out.below.trans ((by rw [hw9]; exact below_regrown w5 dq osq : Below w5.heap.size w5 w9).mono HI5.out.below.size)
    clear hw9
    go_wp2_with fail
    go_ret
    exact ⟨rfl, HB9.out⟩
end Go.Proofs.Ytcdfbbjakkmmoaa
