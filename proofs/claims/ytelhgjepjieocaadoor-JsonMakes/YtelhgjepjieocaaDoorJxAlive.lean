import Derived.Test.YtelhgjepjieocaaDoorJxFd
import Derived.Test.YtelhgjepjieocaaDoorJxSame
import Derived.Test.YtelhgjepjieocaaDoorJxRfA
/- Layer 18 (json): append to a slice that is new and empty. -/
namespace Go.Proofs.YtelhgjepjieocaaDoor
open Go.RowKit Go.MapKept Go.Sort
set_option linter.unusedVariables false

theorem append_noneJ (t ty e : TypeId) (i : TypeInfo) (ht : Tryd.prog.underlying t = some (.slice e)) (hi : Tryd.prog.info? e = some i) (w : World) (base : Option Addr) (n cap c : Nat) (h : n ≤ cap) :
    (Builtin.append_ #[t, t] ty #[.slice base n cap, .slice none 0 c]).run Tryd.prog w = .ok (.slice base n cap) w := by
  cases base <;> simp [Builtin.append_, run_underlying ht, sizeOf, typeInfo, hi, Builtin.lenOf, h, Builtin.firstCells, storeCells]
theorem append_fresh (W : World) {ops : Array Oper} {rest : List Oper} {o : Oper} {a : Act} {Q : Exit → Act → World → Prop} (hgd : o.guard = none) (s x : Operand) (t e : TypeId) (z : Value) (size bytes : Nat)
    (ht : Tryd.prog.underlying t = some (.slice e)) (hi : (Tryd.prog.info? e).map (fun i => (i.zero, i.size, i.bytes)) = some (some z, size, bytes)) (hzs : z.cells.size = size) (hsz : 0 < size)
    (ho : o.op = .call { callee := .builtin .append, args := #[s, x], argTypes := #[t, t] })
    (hs : a.eval s = .slice (some ⟨W.heap.size, 0, none⟩) 0 0) (ao : Option Addr) (m c : Nat) (news : List Value) (hx : a.eval x = .slice ao m c) (hn : ao = none → m = 0) (hl : news.length = m * size)
    (hc : news ≠ [] → ∃ b off, ao = some ⟨b, off, none⟩ ∧ ∀ j u, news[j]? = some u → W.cell? ⟨b, off + j, none⟩ = some u) (h1 : ∀ u ∈ news, u.oneCell' = true)
    (h63 : m ≤ maxLen) (hbytes : m * bytes ≤ 140737488355328)
    (h : ∀ v' w', w'.ownsRow W.heap.size e size v' m news → Below W.heap.size W w' → wpList Tryd.prog ops Q rest (a.put o.dst v') w') : wpList Tryd.prog ops Q (o :: rest) a (W.alloc (.cells #[] e)) := by
  have HO : (W.alloc (.cells #[] e)).ownsRow W.heap.size e size (.slice (some ⟨W.heap.size, 0, none⟩) 0 0) 0 [] := World.ownsRow_lit (size := size) W #[] 0 (Nat.le_refl _) (by unfold maxLen; omega) (by simp)
  have hb0 : Below W.heap.size W (W.alloc (.cells #[] e)) := (Below.refl _ _).alloc (Nat.le_refl _) _
  obtain ⟨i0, hi0, hz0, hz1, hz2⟩ := infoV hi
  cases ao with
  | none =>
    have hm := hn rfl
    subst hm
    have h0 : news = [] := List.eq_nil_of_length_eq_zero (by rw [hl]; simp)
    subst h0
    refine wpList_plain hgd fun K hK => ?_
    have hr := append_noneJ t o.type e i0 ht hi0 (W.alloc (.cells #[] e)) (some ⟨W.heap.size, 0, none⟩) 0 0 c (Nat.le_refl _)
    unfold Oper.wp execOp
    simp only [ho, resolve, invoke, builtin, Sem.run_bind, Sem.run_pure, Result.andThen_ok, List.map_toArray, List.map_cons, List.map_nil, hs, hx, hr]
    exact hK _ _ (h _ _ HO hb0)
  | some ad =>
    refine wpList_append_grew _ hgd s x t ho W.heap.size e i0 z size bytes ht hi0 hz0 hz1 hz2 hzs hsz _ 0 [] hs HO ad m c news hx hl ?_ h1 (by omega) (by rw [Nat.zero_add]; exact hbytes) (by simp) ?_
    · intro j u hj
      obtain ⟨b, off, e2, hcc⟩ := hc (by intro e; rw [e] at hj; simp at hj)
      obtain rfl := Option.some.inj e2
      rw [addr_add]
      exact cell_frm (Frm.ofBelow hb0 (fun _ => False)) (hcc j u hj) (fun h => h)
    · intro v' w' h1 h2 _
      refine h v' w' ?_ (hb0.trans (h2.toBelow (by simp) (fun j hj => (World.ownsRow.lt HO j hj).1)))
      simpa using h1
end Go.Proofs.YtelhgjepjieocaaDoor

/- Layer 18 (json): the law's own parts: it comes back with some number. -/
namespace Go.Proofs.YtelhgjepjieocaaDoor
open Go.RowKit Go.MapKept Go.Sort
set_option linter.unusedVariables false

def SpecN (v : Js) : Prop := ∀ (m : Int) (w : World) (S : Nat → Prop) (cs : Array Value), -1000000 ≤ m → m ≤ 1000000 → Rng v → JAt w S v cs → Calls Tryd.prog 13 #[.agg cs, .int .i64 m] w fun e w' => (∃ r : Int, e = .returned (.int .i64 r) ∧ 1 ≤ r ∧ (r ≤ m ∨ r ≤ 1)) ∧ Below w.heap.size w w'
set_option maxRecDepth 100000 in
set_option maxHeartbeats 2000000 in
theorem parts_of (k n : Int) (t : List UInt8) (ns : List (List UInt8)) (its : List Js) (IH : ∀ x ∈ its, SpecN x) : SpecN (.mk k n t ns its) := by
  intro m w S cs hm1 hm2 hr hj
  unfold Rng at hr
  obtain ⟨-, -, r3, r4, -, r6⟩ := hr
  unfold JAt at hj
  obtain ⟨na, nc, ia, ic, rfl, h2, h3, h4, h5⟩ := hj
  obtain ⟨nl, hnl⟩ : ∃ nl, nl = ns.length := ⟨_, rfl⟩
  obtain ⟨il, hil⟩ : ∃ il, il = its.length := ⟨_, rfl⟩
  obtain ⟨tb, htb⟩ : ∃ tb, tb = nmB t := ⟨_, rfl⟩
  rw [← hnl, ← hil, ← htb]
  rw [← hnl] at r3
  rw [← hil] at r4
  have HIH : Hid ((∀ x ∈ its, SpecN x) ∧ Rngs its ∧ its.length = il) := ⟨IH, r6, hil.symm⟩
  have HII : Hid (ItAt w S ia 0 its ∧ ∀ a, ia = some a → its ≠ [] → S a.block) := ⟨h5, h4⟩
  clear IH r6 hnl hil htb h2 h3 h4 h5
  obtain ⟨w1, Hw1⟩ : ∃ w1, Hid (w1 = w.alloc (.cells #[.int .i64 k, .int .i64 n, .string tb, .slice na nl nc, .slice ia il ic] 26)) := ⟨_, rfl⟩
  obtain ⟨ga, Hga⟩ : ∃ ga, Hid (ga = w.heap.size) := ⟨_, rfl⟩
  have hb1 : Below w.heap.size w w1 := by rw [Hw1.out]; exact below_new _ _
  have HBk : Blk w1 ga #[.int .i64 k, .int .i64 n, .string tb, .slice na nl nc, .slice ia il ic] 26 := by rw [Hw1.out, Hga.out]; exact Blk.new _ _ _
  have HB1 : Hid (Below w.heap.size w w1) := hb1
  obtain ⟨x0, x1, x2, x3, x4, -⟩ := Blk.five HBk
  clear hb1 HBk
  unfold jC
  go_enter Tryd.func13, Tryd.ntmps13
  go_upto_region 1 with fail
  rw [← Hw1.out, ← Hga.out]
  clear Hw1 Hga
  go_wp2
  go_loopw [5, 11] (fun x i wr => ∃ (j : Nat) (r : Int), j ≤ il ∧ x = .int .i64 r ∧ i = .int .i64 (j : Int) ∧ (1 ≤ r ∧ (r ≤ m ∨ r ≤ 1)) ∧ Hid (Below w.heap.size w wr)) (fun _ i _ => il - (intOf i).toNat)
  case atStart => exact ⟨0, 1, Nat.zero_le _, rfl, rfl, ⟨by omega, by omega⟩, HB1⟩
  case round =>
    clear HB1 x0 x1 x2 x3 x4
    obtain ⟨j, r, hj, rfl, rfl, hr, HI⟩ := hrel
    by_cases hlt : j < il
    · have hkl : j < its.length := by rw [HIH.out.2.2]; exact hlt
      obtain ⟨b, off, cs, rfl, h5, hcell, hj2⟩ := ItAt.get its 0 j hkl (HII.out.1.below HII.out.2 HI.out)
      obtain ⟨xk, xn, xt, xa, xl, xc, ya, yl, yc, hcs⟩ := JAt.cs hj2
      subst hcs
      simp only [Nat.zero_add] at hcell
      have q0 := hcell 0 _ rfl
      have q1 := hcell 1 _ rfl
      have q2 := hcell 2 _ rfl
      have q3 := hcell 3 _ rfl
      have q4 := hcell 4 _ rfl
      simp only [Nat.add_zero] at q0
      obtain ⟨w1, Hw1⟩ : ∃ w1, Hid (w1 = wr.alloc (.cells #[.int .i64 xk, .int .i64 xn, .string xt, .slice xa xl xc, .slice ya yl yc] 26)) := ⟨_, rfl⟩
      obtain ⟨g, Hg⟩ : ∃ g, Hid (g = wr.heap.size) := ⟨_, rfl⟩
      have hb1 : Below wr.heap.size wr w1 := by rw [Hw1.out]; exact below_new _ _
      have HBk : Hid (Blk w1 g #[.int .i64 xk, .int .i64 xn, .string xt, .slice xa xl xc, .slice ya yl yc] 26) := by rw [Hid, Hw1.out, Hg.out]; exact Blk.new _ _ _
      obtain ⟨x0, x1, x2, x3, x4, -⟩ := Blk.five HBk.out
      have HB1 : Hid (Below w.heap.size w w1) := HI.out.trans (hb1.mono HI.out.size)
      by_cases hrm : m ≤ r
      · clear hcell hj2
        go_upto_region 5 with fail
        rw [← Hw1.out, ← Hg.out]
        clear Hw1 Hg q0 q1 q2 q3 q4 hb1
        go_wp2
        go_ret
        exact ⟨⟨r, rfl, hr⟩, HB1.out⟩
      · have HC := HIH.out.1 _ (List.getElem_mem hkl) (m - r) w1 S _ (by omega) (by omega) (Rngs.mem HIH.out.2.1 _ (List.getElem_mem hkl)) (hj2.below hb1)
        clear hcell hj2 hb1 HI
        go_upto_region 5 with fail
        rw [← Hw1.out, ← Hg.out]
        clear Hw1 Hg q0 q1 q2 q3 q4
        go_wp2_with fail
        refine HC.mono ?_
        clear HC
        rintro e w2 ⟨⟨r2, rfl, hr2⟩, hb2⟩
        have HB2 : Hid (Below w.heap.size w w2) := HB1.out.trans (hb2.mono HB1.out.size)
        clear hb2 x0 x1 x2 x3 x4
        go_wp2
        go_roundw
        case rel => exact ⟨j + 1, r + r2, by omega, rfl, by go_num, ⟨by omega, by omega⟩, HB2⟩
        case measure => simp [intOf]; omega
    · go_wp2
      go_ret
      exact ⟨⟨r, rfl, hr⟩, HI.out⟩
mutual
theorem specN : ∀ v : Js, SpecN v
  | .mk k n t ns its => parts_of k n t ns its (specNs its)
theorem specNs : ∀ its : List Js, ∀ x ∈ its, SpecN x
  | [], x, hx => by cases hx
  | y :: ys, x, hx => by
    rcases List.mem_cons.1 hx with h | h
    · rw [h]; exact specN y
    · exact specNs ys x h
end
end Go.Proofs.YtelhgjepjieocaaDoor

/- Layer 18 (json): the chapter's example. -/
namespace Go.Proofs.YtelhgjepjieocaaDoor
open Go.RowKit Go.MapKept Go.Sort
set_option linter.unusedVariables false

def exS : ByteArray := ⟨#[32, 123, 34, 97, 34, 58, 32, 91, 49, 44, 32, 45, 50, 44, 32, 34, 120, 92, 117, 48, 48, 48, 65, 34, 93, 125, 32]⟩
def exV : Js := .mk 6 0 [] [[97]] [.mk 5 0 [] [] [.mk 3 1 [] [] [], .mk 3 (-2) [] [] [], .mk 4 0 [120, 10] [] []]]
set_option maxRecDepth 100000 in
theorem parse_ex : parseJ exS = .ok exV := by kernel_rfl
set_option maxRecDepth 100000 in
theorem print_ex : printJ exV = ([123, 34, 97, 34, 58, 91, 49, 44, 45, 50, 44, 34, 120, 92, 110, 34, 93, 125], 0) := by kernel_rfl
theorem rng_ex : Rng exV := by
  unfold exV
  simp [Rng, Rngs]
theorem bytes_ex : (⟨(bytesOfN [123, 34, 97, 34, 58, 91, 49, 44, 45, 50, 44, 34, 120, 92, 110, 34, 93, 125]).toArray⟩ : ByteArray) = ⟨#[123, 34, 97, 34, 58, 91, 49, 44, 45, 50, 44, 34, 120, 92, 110, 34, 93, 125]⟩ := rfl
set_option maxRecDepth 100000 in
set_option maxHeartbeats 4000000 in
theorem alive_calls (w : World) (hv : Vs w) : Calls Tryd.prog 9 #[] w (fun e w' => e = .returned (.bool true) ∧ Below w.heap.size w w') := by
  have HP := parseJ_calls exS w (by decide) hv
  rw [parse_ex] at HP
  have HV : Hid (Vs w) := hv
  clear hv
  go_enter Tryd.func9, Tryd.ntmps9
  go_wp2_with fail
  refine HP.mono ?_
  clear HP
  rintro e w1 ⟨hb1, cs, S, rfl, hj, hs⟩
  obtain ⟨xk, xn, xt, xa, xl, xc, ya, yl, yc, hcs⟩ := JAt.cs hj
  subst hcs
  have HB1 : Hid (Below w.heap.size w w1 ∧ JAt w1 S exV _ ∧ ∀ k, S k → k < w1.heap.size) := ⟨hb1, hj, fun k hk => (hs k hk).2⟩
  clear hb1 hj hs
  obtain ⟨w2, Hw2⟩ : ∃ w2, Hid (w2 = w1.alloc (.cells #[.int .i64 xk, .int .i64 xn, .string xt, .slice xa xl xc, .slice ya yl yc] 26)) := ⟨_, rfl⟩
  obtain ⟨g, Hg⟩ : ∃ g, Hid (g = w1.heap.size) := ⟨_, rfl⟩
  have HBg : Hid (Blk w2 g #[.int .i64 xk, .int .i64 xn, .string xt, .slice xa xl xc, .slice ya yl yc] 26) := by rw [Hid, Hw2.out, Hg.out]; exact Blk.new _ _ _
  have HF2 : Hid (Below w1.heap.size w1 w2) := by rw [Hid, Hw2.out]; exact below_new _ _
  have HB2 : Hid (Below w.heap.size w w2) := HB1.out.1.trans (HF2.out.mono HB1.out.1.size)
  have HP := print_calls exV w2 S _ rng_ex (HB1.out.2.1.below HF2.out) (fun k hk => Nat.lt_of_lt_of_le (HB1.out.2.2 k hk) HF2.out.size) (HV.out.stay HB2.out)
  rw [print_ex] at HP
  simp only [] at HP
  rw [bytes_ex] at HP
  obtain ⟨x0, x1, x2, x3, x4, -⟩ := Blk.five HBg.out
  go_upto_region 2 with fail
  rw [← Hw2.out, ← Hg.out]
  clear Hw2 Hg
  go_wp2_with fail
  refine HP.mono ?_
  clear HP
  rintro e w3 ⟨rfl, hb3⟩
  have HB3 : Hid (Below w.heap.size w w3) := HB2.out.trans (hb3.mono HB2.out.size)
  clear hb3
  go_wp2
  go_ret
  exact ⟨rfl, HB3.out⟩
end Go.Proofs.YtelhgjepjieocaaDoor
